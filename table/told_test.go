package table_test

import (
	"iter"
	"math/rand/v2"
	"slices"
	"sync"
	"testing"

	"skewer/api"
	"skewer/play"
	"skewer/slice"
	"skewer/solve"
	"skewer/specimen"
	"skewer/table"
)

// sample is a valid game with a closed list, the moves from its positions, and its values.
type sample struct {
	g    api.Game
	l    []api.Pos
	next [][]int
	v    []api.Result
}

// made makes the samples, which are the same ones each time.
var made = sync.OnceValue(func() []sample {
	var all []sample
	for g, l := range specimen.Lists(rand.New(rand.NewPCG(1, 2)).IntN, 1500) {
		next, e := solve.Next(g, l)
		v, e2 := solve.Values(g, l)
		if e == api.OK && e2 == api.OK {
			all = append(all, sample{g, l, next, v})
		}
	}
	return all
})

// samples yields the samples with up to so many positions, each with numbers to pick on.
func samples(most int) iter.Seq2[specimen.Pick, sample] {
	return func(yield func(specimen.Pick, sample) bool) {
		pick := rand.New(rand.NewPCG(3, 4)).IntN
		for _, x := range made() {
			if len(x.l) <= most && !yield(pick, x) {
				return
			}
		}
	}
}

// anyResults returns so many results, most of them with small numbers.
func anyResults(pick specimen.Pick, n int) []api.Result {
	var l []api.Result
	for range n {
		x := api.Result{Out: api.Win + pick(3), N: pick(6)}
		if pick(60) == 0 {
			x = api.Result{Out: pick(5), N: pick(40) - 5}
		}
		l = append(l, x)
	}
	return l
}

// anyPart returns some of so many indices, or all of them, or none.
func anyPart(pick specimen.Pick, n int) []int {
	var part []int
	share := pick(7)
	for i := range n {
		if pick(6) < share {
			part = append(part, i)
		}
	}
	return part
}

// anyBudget returns a budget for so many positions: few ones, about all of them, or many more.
func anyBudget(pick specimen.Pick, n int) int {
	return []int{1 + pick(3), 1 + pick(n), n, n + 1, 4000, 1 << 62}[pick(6)]
}

// toldFill returns the results and the loads of a part that is filled, as the chapter tells it.
func toldFill(x sample, v []api.Result, part []int, budget int) ([]api.Result, int) {
	v = slices.Clone(v)
	decided := slices.Repeat([]bool{true}, len(v))
	for _, i := range part {
		decided[i] = false
	}
	loads := 0
	for n := 0; ; n++ {
		loaded := map[int]bool{}
		for _, i := range part {
			if !decided[i] {
				loaded[i/budget] = true
			}
		}
		loads += len(loaded)
		v, decided = toldRound(x, v, decided, part, n)
		if n == 4000 || !toldMore(v, decided, n) {
			break
		}
	}
	for _, i := range part {
		if !decided[i] {
			v[i] = drawn(0)
		}
	}
	return v, loads
}

// toldMore reports whether some decided entry has an N of n or more, and is no draw.
func toldMore(v []api.Result, decided []bool, n int) bool {
	for i, r := range v {
		if decided[i] && r.Out != api.Draw && r.N >= n {
			return true
		}
	}
	return false
}

// toldRound returns what the entries are after the round n, and which ones are decided.
func toldRound(x sample, v []api.Result, decided []bool, part []int, n int) ([]api.Result, []bool) {
	w, after := slices.Clone(v), slices.Clone(decided)
	for _, i := range part {
		if decided[i] {
			continue
		}
		out, over := play.Status(x.g, x.l[i])
		lost, won, greatest := false, true, -9999
		for _, to := range x.next[i] {
			lost = lost || decided[to] && v[to] == loss(n-1)
			won = won && decided[to] && v[to].Out == api.Win
			greatest = max(greatest, v[to].N)
		}
		switch {
		case over && n == 0:
			w[i], after[i] = api.Result{Out: out}, true
		case !over && n > 0 && lost:
			w[i], after[i] = win(n), true
		case !over && n > 0 && won && greatest == n-1:
			w[i], after[i] = loss(n), true
		}
	}
	return w, after
}

// P15.1, P15.4: any part of any results is filled as the chapter tells it, also if it is no slice; no entries outside of it are changed.
func TestTold(t *testing.T) {
	outs, changed, several := map[int]int{}, 0, 0
	for pick, x := range samples(100) {
		for range 6 {
			v, part, budget := anyResults(pick, len(x.l)), anyPart(pick, len(x.l)), anyBudget(pick, len(x.l))
			want, wantLoads := toldFill(x, v, part, budget)
			got, loads, e := table.Slice(x.g, x.l, v, part, budget)
			if e != api.OK || !slices.Equal(got, want) || loads != wantLoads {
				t.Fatalf("%v, %v, %v, %v, %d: %v, %d, %v, not %v, %d", x.g, x.l, v, part, budget, got, loads, e, want, wantLoads)
			}
			for i, r := range got {
				if _, in := slices.BinarySearch(part, i); !in && r != v[i] {
					t.Fatalf("%v, %v, %v, %v: %v at %d", x.g, x.l, v, part, r, i)
				}
				if r != v[i] {
					changed++
				}
			}
			for _, i := range part {
				outs[got[i].Out]++
				several += min(1, got[i].N/2)
			}
		}
	}
	if min(outs[api.Win], outs[api.Draw], outs[api.Loss], changed, several) < 1000 {
		t.Errorf("%v, %d changed, %d in several rounds", outs, changed, several)
	}
}

// measures returns right measures for the game: that of the game, and two others.
func measures(pick specimen.Pick, g api.Game) []api.Measure {
	return []api.Measure{slice.Of(g), specimen.Measure(pick, g), specimen.Measure(pick, g)}
}

// P15.1, P15.2: the results that are made are the values, whatever the budget and the right measure are; the loads are those of all slices.
func TestMake(t *testing.T) {
	lists, long := 0, 0
	for pick, x := range samples(500) {
		for _, m := range measures(pick, x.g) {
			budget := anyBudget(pick, len(x.l))
			v, loads, e := table.Make(x.g, m, x.l, budget)
			if e != api.OK || !slices.Equal(v, x.v) {
				t.Fatalf("%v, %v, %v: %v, %v, not %v", x.g, m, x.l, v, e, x.v)
			}
			want, wantLoads := slices.Repeat([]api.Result{drawn(0)}, len(x.l)), 0
			for _, part := range slice.Cut(m, x.l) {
				w, n := toldFill(x, want, part, budget)
				want, wantLoads = w, wantLoads+n
			}
			if loads != wantLoads || !slices.Equal(want, x.v) {
				t.Fatalf("%v, %v, %v, %d: %d loads, not %d", x.g, m, x.l, budget, loads, wantLoads)
			}
			lists++
			for _, r := range v {
				long += min(1, r.N/5)
			}
		}
	}
	if min(lists, long) < 1000 {
		t.Errorf("only %d lists, %d late ends", lists, long)
	}
}

// P15.3: a greater budget that is a multiple of a lesser one does not need more loads; one that has room for all needs one a round at most.
func TestLoads(t *testing.T) {
	less := 0
	for pick, x := range samples(100) {
		v, part := anyResults(pick, len(x.l)), anyPart(pick, len(x.l))
		m := specimen.Measure(pick, x.g)
		for range 4 {
			small := 1 + pick(len(x.l))
			great := small * (1 + pick(5))
			_, most, _ := table.Slice(x.g, x.l, v, part, small)
			_, loads, _ := table.Slice(x.g, x.l, v, part, great)
			_, mostMade, _ := table.Make(x.g, m, x.l, small)
			_, made, _ := table.Make(x.g, m, x.l, great)
			if loads > most || made > mostMade {
				t.Fatalf("%v, %v: %d loads for %d, %d for %d; %d and %d made", x.g, x.l, most, small, loads, great, mostMade, made)
			}
			if loads < most && made < mostMade {
				less++
			}
		}
		_, loads, _ := table.Slice(x.g, x.l, v, part, len(x.l))
		farthest := 0
		for _, r := range v {
			farthest = max(farthest, r.N)
		}
		// There is one round for each number up to the greatest one, and one more; in the part, the numbers grow by one at a time.
		if rounds := farthest + len(part) + 2; loads > rounds {
			t.Fatalf("%v, %v, %v, %v: %d loads", x.g, x.l, v, part, loads)
		}
	}
	if less < 300 {
		t.Errorf("only %d budgets need less", less)
	}
}

// reached returns whether each position can be reached from those of the part.
func reached(x sample, part []int) []bool {
	is := make([]bool, len(x.l))
	for _, i := range part {
		is[i] = true
	}
	for l := slices.Clone(part); len(l) > 0; l = l[1:] {
		for _, to := range x.next[l[0]] {
			if !is[to] {
				is[to] = true
				l = append(l, to)
			}
		}
	}
	return is
}

// P15.4, P15.5: filling a slice of a table that is right leaves it as it is, whatever the entries of the slice were; and what is outside of it and cannot be reached from it does not matter.
func TestSlices(t *testing.T) {
	cut, beyond := 0, 0
	for pick, x := range samples(100) {
		for _, m := range measures(pick, x.g) {
			parts := slice.Cut(m, x.l)
			for _, part := range parts {
				if again, _, e := table.Slice(x.g, x.l, x.v, part, anyBudget(pick, len(x.l))); e != api.OK || !slices.Equal(again, x.v) {
					t.Fatalf("%v, %v, %v: %v, %v, not %v", x.g, x.l, part, again, e, x.v)
				}
				v, is := slices.Clone(x.v), reached(x, part)
				for i, r := range anyResults(pick, len(v)) {
					_, in := slices.BinarySearch(part, i)
					if in || !is[i] {
						v[i] = r
					}
					if !is[i] {
						beyond++
					}
				}
				got, _, e := table.Slice(x.g, x.l, v, part, anyBudget(pick, len(x.l)))
				for i, r := range got {
					_, in := slices.BinarySearch(part, i)
					if in && r != x.v[i] || !in && r != v[i] {
						t.Fatalf("%v, %v, %v, %v: %v at %d", x.g, x.l, v, part, r, i)
					}
				}
				if e != api.OK || len(got) != len(v) {
					t.Fatalf("%v, %v, %v, %v: %v", x.g, x.l, v, part, e)
				}
			}
			if len(parts) > 1 {
				cut++
			}
		}
	}
	if min(cut, beyond) < 1000 {
		t.Errorf("only %d lists with several slices, and %d positions that are not reached", cut, beyond)
	}
}

// checkZero checks whether a number of x is what the chapter tells of it and of the numbers after it, and whether a move leads on from a won position (P15.7).
func checkZero(t *testing.T, x sample, m api.Measure, z []int, i int) {
	t.Helper()
	least, greatest, hurries := 1<<62, 0, false
	for _, to := range x.next[i] {
		rest, leaves := z[to], slice.Level(m, x.l[to]) < slice.Level(m, x.l[i])
		if leaves {
			rest = 0
		}
		greatest = max(greatest, rest)
		if x.v[to].Out == api.Loss {
			least = min(least, rest)
			hurries = hurries || leaves || len(x.next[to]) == 0 || z[to] < z[i]
		}
	}
	_, over := play.Status(x.g, x.l[i])
	want := 0
	switch {
	case over:
	case x.v[i].Out == api.Win:
		want = 1 + least
	case x.v[i].Out == api.Loss:
		want = 1 + greatest
	}
	if z[i] != want || z[i] > x.v[i].N || x.v[i].Out == api.Win && !over && (z[i] < 1 || !hurries) {
		t.Fatalf("%v, %v, %v, %v: %d at %d, not %d; %v", x.g, m, x.l, x.v, z[i], i, want, hurries)
	}
}

// P15.1, P15.6, P15.7: each number is what the chapter tells by those of the positions after it, which they determine, since each number is by 1 greater than some other one, or is 1 where a move leaves the slice, or ends the game. It is at most N, and at least 1 for a win; from a won position, a move hurries.
func TestZeros(t *testing.T) {
	less, other := 0, 0
	for pick, x := range samples(500) {
		for _, m := range measures(pick, x.g) {
			z, e := table.Zero(x.g, m, x.l, x.v)
			if e != api.OK || len(z) != len(x.l) {
				t.Fatalf("%v, %v, %v: %v, %v", x.g, m, x.l, z, e)
			}
			for i := range x.l {
				checkZero(t, x, m, z, i)
				if z[i] < x.v[i].N && z[i] > 1 {
					less++
				}
				if farther(x, m, z, i) {
					other++
				}
			}
		}
	}
	if less < 300 || other < 1 {
		t.Errorf("only %d numbers are less, and for %d, one hurries on a longer way", less, other)
	}
}

// farther reports whether from a won position, each move by which one hurries leads farther from the end than the best one.
func farther(x sample, m api.Measure, z []int, i int) bool {
	if x.v[i].Out != api.Win || len(x.next[i]) == 0 {
		return false
	}
	for _, to := range x.next[i] {
		rest := z[to]
		if slice.Leaves(m, x.l[i], x.l[to]) {
			rest = 0
		}
		if x.v[to] == loss(x.v[i].N-1) && rest == z[i]-1 {
			return false
		}
	}
	return true
}

// P15.8: a list without one of its positions is refused where the position is needed, and a part that does not increase always.
func TestRefused(t *testing.T) {
	refused := 0
	for pick, x := range samples(40) {
		i := pick(len(x.l))
		less := slices.Delete(slices.Clone(x.l), i, i+1)
		want := api.OK
		for from, moves := range x.next {
			if from != i && slices.Contains(moves, i) {
				want = api.ErrList
				refused++
			}
		}
		v := anyResults(pick, len(less))
		_, _, e := table.Slice(x.g, less, v, nil, 1)
		_, _, e2 := table.Make(x.g, slice.Of(x.g), less, 1)
		_, e3 := table.Zero(x.g, slice.Of(x.g), less, v)
		if e != want || e2 != want || e3 != want {
			t.Fatalf("%v, %v: %v, %v, %v, not %v", x.g, less, e, e2, e3, want)
		}
		part := anyPart(pick, len(x.l))
		part = append(part, pick(len(x.l)))
		if k := len(part) - 1; k > 0 && part[k] <= part[k-1] {
			checkError(t, x.g, x.l, x.v, part, 1, api.ErrTable)
		} else {
			checkError(t, x.g, x.l, x.v, part, 1, api.OK)
		}
	}
	if refused < 300 {
		t.Errorf("only %d are refused", refused)
	}
}
