package specimen_test

import (
	"fmt"
	"math/rand/v2"
	"slices"
	"strconv"
	"strings"
	"testing"

	"skewer/api"
	"skewer/game"
	"skewer/pos"
	"skewer/prog"
	"skewer/solve"
	"skewer/specimen"
)

// Games, programs, clauses and positions are valid, and they are the same ones for the same numbers.
func TestValid(t *testing.T) {
	made := func(n uint64) string {
		pick := rand.New(rand.NewPCG(n, 0)).IntN
		g := specimen.Game(pick)
		p := specimen.Pos(pick, g)
		g.Kinds[0].Progs = append(g.Kinds[0].Progs, specimen.Prog(pick, g))
		g.Clauses = append(g.Clauses, specimen.Clause(pick, g))
		if !game.Valid(g) || !pos.Valid(g, p) {
			t.Fatalf("%v, %v", g, p)
		}
		return fmt.Sprint(g, p)
	}
	for n := range uint64(3000) {
		if made(n) != made(n) {
			t.Fatal("two specimens for", n)
		}
	}
}

// An even game has each program and the turned one, and is made of a copy.
func TestEven(t *testing.T) {
	pick := rand.New(rand.NewPCG(7, 8)).IntN
	for range 1000 {
		g := specimen.Game(pick)
		before := fmt.Sprint(g)
		even := specimen.Even(g)
		for i, k := range g.Kinds {
			want := slices.Clone(k.Progs)
			for _, p := range k.Progs {
				want = append(want, prog.Turned(p, g.Board.Turn))
			}
			if fmt.Sprint(even.Kinds[i].Progs) != fmt.Sprint(want) {
				t.Fatalf("%v: %v", g, even)
			}
			even.Kinds[i].Progs = nil
		}
		if fmt.Sprint(g) != before {
			t.Fatalf("%v, not %s", g, before)
		}
		if g = specimen.Even(g); !game.Valid(g) {
			t.Fatalf("not valid: %v", g)
		}
	}
}

// What is made of others is made of copies, and is often not valid, but not always.
func TestOther(t *testing.T) {
	pick := rand.New(rand.NewPCG(1, 2)).IntN
	games, positions := 0, 0
	const all = 3000
	for range all {
		g := specimen.Game(pick)
		p := specimen.Pos(pick, g)
		before := fmt.Sprint(g, p)
		if game.Valid(specimen.OtherGame(pick, g)) {
			games++
		}
		if pos.Valid(g, specimen.OtherPos(pick, p)) {
			positions++
		}
		if fmt.Sprint(g, p) != before {
			t.Fatalf("%v, %v, not %s", g, p, before)
		}
	}
	for _, n := range []int{games, positions} {
		if n == 0 || n > all/2 {
			t.Errorf("%d of %d are valid", n, all)
		}
	}
}

// A copy is equal, and shares no memory.
func TestCopied(t *testing.T) {
	pick := rand.New(rand.NewPCG(3, 4)).IntN
	for range 100 {
		p := specimen.Pos(pick, specimen.Game(pick))
		q := specimen.Copied(p)
		if pos.Compare(p, q) != 0 {
			t.Fatalf("%v, not %v", q, p)
		}
		text := fmt.Sprint(p)
		for _, l := range [][]int{q.At, q.Hand[0], q.Hand[1]} {
			copy(l, slices.Repeat([]int{99}, len(l)))
		}
		if fmt.Sprint(p) != text {
			t.Fatalf("%v, not %s", p, text)
		}
	}
}

// failing is a test that fails by a panic with what is told.
type failing struct{}

func (failing) Helper() {}

func (failing) Fatalf(format string, args ...any) { panic(fmt.Sprintf(format, args...)) }

// failure returns how a test fails in the function; an empty text if it does not.
func failure(do func(t specimen.Test)) (told string) {
	defer func() {
		if r := recover(); r != nil {
			told = fmt.Sprint(r)
		}
	}()
	do(failing{})
	return ""
}

// A row has its steps, kinds, clauses and results; without cells, or with kinds or clauses that are wrong, there is none.
func TestRow(t *testing.T) {
	const kinds, clauses = "kind a\nprog go0 empty\n", "must\nfew 1 draw\n"
	for cells := 1; cells <= api.MaxCells; cells++ {
		g := specimen.Row(t, cells, kinds, clauses)
		if g.Board.Cells != cells || len(g.Kinds) != 1 || g.Rights != 1 || !g.Must || len(g.Clauses) != 1 || g.Blocked != api.Loss || g.Endless != api.Draw {
			t.Fatalf("%d cells: %v", cells, g)
		}
		for c := range cells {
			to := c + 1
			if to == cells {
				to = -1
			}
			if g.Board.Next[0][c] != to || g.Board.Next[1][c] != c-1 {
				t.Errorf("%d cells: %v", cells, g.Board)
			}
		}
	}
	for _, c := range []struct {
		cells          int
		kinds, clauses string
	}{{0, kinds, clauses}, {65, kinds, clauses}, {3, "", clauses}, {3, "kind A\n", clauses}, {3, kinds, "few 65 draw\n"}, {3, kinds, "must"}} {
		if told := failure(func(t specimen.Test) { specimen.Row(t, c.cells, c.kinds, c.clauses) }); !strings.Contains(told, strconv.Quote(c.kinds)) {
			t.Errorf("%v: %q", c, told)
		}
	}
}

// A game without steps is valid exactly if its numbers of cells, rights and kinds are, and has these, with the kinds that are kept.
func TestStill(t *testing.T) {
	for cells := range api.MaxCells + 2 {
		for rights := -1; rights <= api.MaxRights+1; rights++ {
			for kinds := range api.MaxKinds + 2 {
				keep := make([]bool, kinds)
				for i := 1; i < kinds; i += 2 {
					keep[i] = true
				}
				g := specimen.Still(cells, rights, keep...)
				want := cells >= 1 && cells <= api.MaxCells && rights >= 0 && rights <= api.MaxRights && kinds >= 1 && kinds <= api.MaxKinds
				if game.Valid(g) != want || g.Board.Cells != cells || g.Rights != rights || len(g.Kinds) != kinds {
					t.Fatalf("%d, %d, %v: %v", cells, rights, keep, g)
				}
				for i, k := range g.Kinds {
					if k.Keep != keep[i] {
						t.Fatalf("%v: %v", keep, g)
					}
				}
				for _, to := range g.Board.Next[0] {
					if to != -1 {
						t.Fatalf("%d: %v", cells, g.Board)
					}
				}
			}
		}
	}
}

// Positions are read from their texts, which are told again.
func TestTexts(t *testing.T) {
	g := specimen.Row(t, 3, "kind a\n", "")
	l := []api.Pos{specimen.Parsed(t, g, "A.a/0/0/0/0"), specimen.Parsed(t, g, "..a/0/0/1/1")}
	if l[0].At[2] != 2 || l[1].Rights != 1 {
		t.Errorf("%v", l)
	}
	if got := specimen.Texts(g, l); got != "A.a/0/0/0/0 ..a/0/0/1/1" {
		t.Error(got)
	}
	if got := specimen.OutcomeTexts(g, []api.Outcome{{Pos: l[0]}, {Pos: l[1], Took: true}}); got != "A.a/0/0/0/0 ..a/0/0/1/1x" {
		t.Error(got)
	}
	if got := specimen.Texts(g, nil) + specimen.OutcomeTexts(g, nil); got != "" {
		t.Error(got)
	}
	if told := failure(func(t specimen.Test) { specimen.Parsed(t, g, "B../0/0/0/0") }); !strings.Contains(told, "B../0/0/0/0") {
		t.Errorf("%q", told)
	}
}

// If lists share memory, the first one that has changed is told; lists that are equal, empty, or parts of one list side by side share none.
func TestCheckApart(t *testing.T) {
	l := []int{1, 2, 3, 4}
	for _, c := range []struct {
		lists [][]int
		want  string
	}{
		{nil, ""},
		{[][]int{l[:2], l[2:], nil, {5, 6}, {5, 6}, l[4:]}, ""},
		{[][]int{{5, 6}, l[:3], l[2:]}, "the list 1 has changed: [1 1 2]"},
		{[][]int{l, l}, "the list 0 has changed: [1 1 1 1]"},
	} {
		if got := failure(func(t specimen.Test) { specimen.CheckApart(t, c.lists) }); got != c.want {
			t.Errorf("%q, not %q", got, c.want)
		}
	}
}

// Samples are as many as asked for, and valid; they end when no more are wanted.
func TestSamples(t *testing.T) {
	pick := rand.New(rand.NewPCG(5, 6)).IntN
	positions := map[string]int{}
	for g, p := range specimen.Samples(pick, 20, 3) {
		if !game.Valid(g) || !pos.Valid(g, p) {
			t.Fatalf("%v, %v", g, p)
		}
		positions[fmt.Sprint(g)]++
	}
	for g, n := range positions {
		if n != 3 || len(positions) != 20 {
			t.Errorf("%d games, %d positions of %s", len(positions), n, g)
		}
	}
	for range specimen.Samples(pick, 20, 3) {
		break
	}
}

// Lists are closed, of as many games as asked for, or some less; in some, there are several positions to which no moves lead. They end when no more are wanted.
func TestLists(t *testing.T) {
	pick := rand.New(rand.NewPCG(7, 8)).IntN
	lists, several := 0, 0
	for g, l := range specimen.Lists(pick, 200) {
		next, e := solve.Next(g, l)
		if e != api.OK || len(l) == 0 {
			t.Fatalf("%v, %v: %v", g, l, e)
		}
		after := map[int]bool{}
		for _, to := range slices.Concat(next...) {
			after[to] = true
		}
		lists++
		if len(after) < len(l)-1 {
			several++
		}
	}
	if lists < 100 || lists >= 200 || several < 30 {
		t.Errorf("%d lists, %d of them with several plays", lists, several)
	}
	for range specimen.Lists(pick, 200) {
		break
	}
}

// Measures are right: no kind becomes one with a greater weight. All that are right can come.
func TestMeasure(t *testing.T) {
	g := specimen.Row(t, 3, "kind a\nprog become1\nkind b\nprog become2\nkind c\nprog become1\n", "")
	pick := rand.New(rand.NewPCG(9, 10)).IntN
	found := map[string]bool{}
	for range 5000 {
		m := specimen.Measure(pick, g).Kinds
		if len(m) != 3 || m[0] < m[1] || m[1] != m[2] || slices.Min(m) < 1 || slices.Max(m) > 6 {
			t.Fatal(m)
		}
		found[fmt.Sprint(m)] = true
	}
	if len(found) != 21 {
		t.Errorf("only %d measures", len(found))
	}
}
