package pos_test

import (
	"fmt"
	"maps"
	"math/rand/v2"
	"reflect"
	"slices"
	"testing"

	"skewer/api"
	"skewer/game"
	"skewer/pos"
	"skewer/specimen"
)

// P4.1: the examples of the chapter.
func TestExamples(t *testing.T) {
	g := specimen.Still(2, 2, false)
	p := posOf(1, 1, 0)
	p.Rights, p.Side = 2, 1
	if !game.Valid(g) || !pos.Valid(g, p) {
		t.Fatal("not valid")
	}
	if got := pos.Print(g, p); got != "A./0/0/2/1" {
		t.Errorf("Print: %q", got)
	}
	if got := pos.Key(p); got != "\x01\x00\x00\x00\x02\x01" {
		t.Errorf("Key: %q", got)
	}
	if got, e := pos.Parse(g, "A./0/0/2/1"); e != api.OK || !same(got, p) {
		t.Errorf("Parse: %v, %v", got, e)
	}
	for _, s := range []string{"A./0/0/02/1", "A./1/0/2/1"} {
		refused(t, g, s)
	}
	want := posOf(1, 2, 1)
	want.Rights = 3
	if got, e := pos.Parse(g, "aA/0/0/3/0"); e != api.OK || !same(got, want) {
		t.Errorf("Parse: %v, %v", got, e)
	}
}

// same reports whether two positions have the same numbers in the same lists.
func same(p, q api.Pos) bool {
	return slices.Equal(p.At, q.At) && slices.Equal(p.Hand[0], q.Hand[0]) && slices.Equal(p.Hand[1], q.Hand[1]) && p.Rights == q.Rights && p.Side == q.Side
}

// inOrder is the order of the chapter, as it is told there.
func inOrder(p, q api.Pos) int {
	lists := [][2][]int{{p.At, q.At}, {p.Hand[0], q.Hand[0]}, {p.Hand[1], q.Hand[1]}, {{p.Rights}, {q.Rights}}, {{p.Side}, {q.Side}}}
	for _, l := range lists {
		for i := 0; ; i++ {
			if i == len(l[0]) && i == len(l[1]) {
				break
			}
			if i == len(l[0]) || i < len(l[1]) && l[0][i] < l[1][i] {
				return -1
			}
			if i == len(l[1]) || l[0][i] > l[1][i] {
				return 1
			}
		}
	}
	return 0
}

// P4.2: the order is the one of the chapter; of two different positions exactly one comes first, and what comes first goes on over a third one.
func TestCompare(t *testing.T) {
	l := slices.Collect(small())
	for _, p := range l {
		for _, q := range l {
			got := pos.Compare(p, q)
			if got != inOrder(p, q) || got != -pos.Compare(q, p) || (got == 0) != same(p, q) {
				t.Fatalf("%v and %v: %d", p, q, got)
			}
			for _, x := range l {
				if got < 0 && pos.Compare(q, x) < 0 && pos.Compare(p, x) != -1 {
					t.Fatalf("%v, %v and %v", p, q, x)
				}
			}
		}
	}
}

// P4.2: each number decides before those behind it, however far apart the numbers are.
func TestCompareNumbers(t *testing.T) {
	for _, n := range edges {
		for _, m := range edges {
			want := inOrder(api.Pos{Side: n}, api.Pos{Side: m})
			for i, pair := range [][2]api.Pos{
				{{At: []int{1, n}, Hand: [2][]int{{m}, {m}}, Rights: m, Side: m}, {At: []int{1, m}, Hand: [2][]int{{n}, {n}}, Rights: n, Side: n}},
				{{Hand: [2][]int{{n, m}, {m}}, Rights: m, Side: m}, {Hand: [2][]int{{m, n}, {n}}, Rights: n, Side: n}},
				{{Hand: [2][]int{nil, {n, m}}, Rights: m, Side: m}, {Hand: [2][]int{nil, {m, n}}, Rights: n, Side: n}},
				{{Rights: n, Side: m}, {Rights: m, Side: n}},
				{{Rights: 1, Side: n}, {Rights: 1, Side: m}},
			} {
				if got := pos.Compare(pair[0], pair[1]); got != want {
					t.Fatalf("%d and %d, case %d: %d", n, m, i, got)
				}
			}
		}
	}
}

// P4.1, P4.2: nil and empty lists are the same.
func TestNil(t *testing.T) {
	none := api.Pos{}
	empty := api.Pos{At: []int{}, Hand: [2][]int{{}, {}}}
	if pos.Compare(none, empty) != 0 || pos.Key(none) != pos.Key(empty) || len(pos.Sort([]api.Pos{none, empty})) != 1 || pos.Find([]api.Pos{none}, empty) != 0 {
		t.Error("nil and empty lists differ")
	}
	if len(pos.Sort(nil)) != 0 || len(pos.Sort([]api.Pos{})) != 0 || pos.Find(nil, none) != -1 {
		t.Error("lists without positions")
	}
}

// lists returns lists of positions, with some of them more than once, in any order.
func lists() [][]api.Pos {
	r := rand.New(rand.NewPCG(7, 8))
	var all [][]api.Pos
	known := slices.Collect(small())
	for n := range 60 {
		var l []api.Pos
		for range n {
			l = append(l, known[r.IntN(1+n)])
		}
		all = append(all, l)
	}
	var every []api.Pos
	for _, p := range valid() {
		every = append(every, p, p)
	}
	r.Shuffle(len(every), func(i, j int) { every[i], every[j] = every[j], every[i] })
	return append(all, every)
}

// P4.3: a sorted list has the same positions, each once and in order, in whatever order they were.
func TestSort(t *testing.T) {
	r := rand.New(rand.NewPCG(9, 10))
	for _, l := range lists() {
		sorted := pos.Sort(l)
		for i := range sorted {
			if i > 0 && inOrder(sorted[i-1], sorted[i]) != -1 {
				t.Fatalf("%v before %v", sorted[i-1], sorted[i])
			}
		}
		if !maps.Equal(told(sorted), told(l)) {
			t.Fatalf("%v of %v", sorted, l)
		}
		l = slices.Clone(l)
		r.Shuffle(len(l), func(i, j int) { l[i], l[j] = l[j], l[i] })
		if !slices.EqualFunc(pos.Sort(l), sorted, same) || !slices.EqualFunc(pos.Sort(sorted), sorted, same) {
			t.Fatalf("other lists of %v", l)
		}
	}
}

// told returns the set of what is told about the positions of l.
func told(l []api.Pos) map[string]bool {
	set := map[string]bool{}
	for _, p := range l {
		set[fmt.Sprint(p)] = true
	}
	return set
}

// P4.4: each position of a sorted list is found at its index, and no other one.
func TestFind(t *testing.T) {
	for _, l := range lists() {
		sorted := pos.Sort(l)
		for i, p := range sorted {
			if got := pos.Find(sorted, copied(p)); got != i {
				t.Fatalf("%v, the index %d: %d", p, i, got)
			}
			without := slices.Delete(slices.Clone(sorted[max(0, i-20):]), min(i, 20), min(i, 20)+1)
			if got := pos.Find(without, p); got != -1 {
				t.Fatalf("%v, which is not there: %d", p, got)
			}
		}
		for p := range small() {
			want := slices.IndexFunc(sorted, func(q api.Pos) bool { return same(p, q) })
			if got := pos.Find(sorted, p); got != want {
				t.Fatalf("%v: %d, not %d", p, got, want)
			}
		}
	}
}

// P4.5: the men of the sides are counted by kinds, and are all cells together with the empty ones.
func TestCount(t *testing.T) {
	for g, p := range valid() {
		cells := 0
		for side := range 2 {
			count := pos.Count(g, p, side)
			if len(count) != len(g.Kinds) {
				t.Fatalf("%v, side %d: %v", p, side, count)
			}
			for kind, n := range count {
				cells += n
				if want := times(p.At, 1+2*kind+side); n != want {
					t.Fatalf("%v, side %d: %v", p, side, count)
				}
			}
		}
		if cells+times(p.At, 0) != g.Board.Cells {
			t.Fatalf("%v: %d men", p, cells)
		}
	}
}

// times returns how often n is in l.
func times(l []int, n int) int {
	count := 0
	for _, m := range l {
		if m == n {
			count++
		}
	}
	return count
}

// P4.1, P4.5: other sides have no men, whatever is on the board.
func TestCountOthers(t *testing.T) {
	for g := range games() {
		p := anyPos(rand.New(rand.NewPCG(11, 12)), g)
		for _, side := range edges {
			if side == 0 || side == 1 {
				continue
			}
			if got := pos.Count(g, p, side); !slices.Equal(got, make([]int, len(g.Kinds))) {
				t.Fatalf("%v, side %d: %v", p, side, got)
			}
		}
	}
}

// P4.6: keys of valid positions of a game are equal, or in order, exactly if the positions are.
func TestKeys(t *testing.T) {
	r := rand.New(rand.NewPCG(13, 14))
	for g := range games() {
		for range 20 {
			p := anyPos(r, g)
			l := []api.Pos{copied(p), anyPos(r, g)}
			for range 20 {
				if q := near(r, p); pos.Valid(g, q) {
					l = append(l, q)
				}
			}
			for _, q := range l {
				a, b := pos.Key(p), pos.Key(q)
				if (a < b) != (inOrder(p, q) < 0) || (a == b) != same(p, q) {
					t.Fatalf("%v and %v: %q and %q", p, q, a, b)
				}
			}
		}
	}
}

// P4.1: a key has a byte for each number, modulo 256, of any position.
func TestKeyBytes(t *testing.T) {
	if got := pos.Key(api.Pos{At: []int{1, 2}, Hand: [2][]int{{3}, {4, 5}}, Rights: 6, Side: 7}); got != "\x01\x02\x03\x04\x05\x06\x07" {
		t.Errorf("%q", got)
	}
	for _, n := range edges {
		b := string([]byte{byte((n%256 + 256) % 256)})
		for i, p := range []api.Pos{{At: []int{n}}, {Hand: [2][]int{{n}, nil}}, {Hand: [2][]int{nil, {n}}}} {
			if got := pos.Key(p); got != b+"\x00\x00" {
				t.Errorf("%d in the list %d: %q", n, i, got)
			}
		}
		if got := pos.Key(api.Pos{Rights: n, Side: 1}); got != b+"\x01" {
			t.Errorf("rights %d: %q", n, got)
		}
		if got := pos.Key(api.Pos{Rights: 1, Side: n}); got != "\x01"+b {
			t.Errorf("side %d: %q", n, got)
		}
	}
}

// P1, P2: no game and no position makes a function panic, or is modified, and the results are the same ones each time.
func TestAnything(t *testing.T) {
	r := rand.New(rand.NewPCG(15, 16))
	for g, p := range valid() {
		q := near(r, near(r, p))
		g = otherGame(r, g)
		before := [2]api.Pos{copied(p), copied(q)}
		l := []api.Pos{q, p, q}
		first := all(g, p, q, l)
		if !same(p, before[0]) || !same(q, before[1]) || !same(l[0], q) || !same(l[1], p) {
			t.Fatal("modified:", before)
		}
		if !reflect.DeepEqual(all(g, p, q, l), first) {
			t.Fatal("other results:", p, q)
		}
	}
}

// otherGame returns g with something changed, by which it may not be valid any more.
func otherGame(r *rand.Rand, g api.Game) api.Game {
	n := edges[r.IntN(len(edges))]
	switch r.IntN(5) {
	case 0:
		g.Board.Cells = n
	case 1:
		g.Kinds = slices.Repeat(g.Kinds, 3)
	case 2:
		g.Kinds = nil
	case 3:
		g.Rights = n
	}
	return g
}

// all calls the functions, with positions that need not be valid, and returns their results.
func all(g api.Game, p, q api.Pos, l []api.Pos) []any {
	results := []any{pos.Compare(p, q), pos.Sort(l), pos.Find(l, p), pos.Key(q)}
	for _, x := range l {
		s := pos.Print(g, x)
		y, e := pos.Parse(g, s)
		results = append(results, pos.Valid(g, x), s, y, e, pos.Count(g, x, x.Side), pos.Count(g, x, 1))
	}
	return results
}

// P1: a list that is not sorted, or has positions more than once, is searched as well.
func TestFindAnywhere(t *testing.T) {
	l := slices.Collect(small())
	for p := range small() {
		if i := pos.Find(l, p); i < -1 || i >= len(l) {
			t.Fatalf("%v: %d", p, i)
		}
	}
}

// P2: what is sorted shares no memory with the list, nor one position with another one.
func TestSortedMemory(t *testing.T) {
	shared := []int{1, 1}
	l := []api.Pos{{At: shared, Hand: [2][]int{shared, shared}, Side: 1}, {At: shared, Hand: [2][]int{shared, shared}}}
	sorted := pos.Sort(l)
	for i := range sorted {
		for _, list := range [][]int{sorted[i].At, sorted[i].Hand[0], sorted[i].Hand[1]} {
			if !slices.Equal(list, []int{1, 1}) {
				t.Fatalf("changed: %v", sorted)
			}
			list[0], list[1] = 2, 2
		}
	}
	if !slices.Equal(shared, []int{1, 1}) || l[0].Side != 1 || l[1].Side != 0 {
		t.Error("the list has changed:", l)
	}
}
