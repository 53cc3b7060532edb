package table_test

import (
	"math"
	"slices"
	"strings"
	"testing"

	"skewer/api"
	"skewer/pos"
	"skewer/slice"
	"skewer/solve"
	"skewer/specimen"
	"skewer/table"
)

// steppers has a kind whose men step and capture forwards.
const steppers = "kind a\nprog go0 empty\nprog go0 enemy take\n"

func win(n int) api.Result  { return api.Result{Out: api.Win, N: n} }
func loss(n int) api.Result { return api.Result{Out: api.Loss, N: n} }
func drawn(n int) api.Result {
	return api.Result{Out: api.Draw, N: n}
}

// listed returns the list of what can be reached from the positions with these texts.
func listed(t *testing.T, g api.Game, texts ...string) []api.Pos {
	t.Helper()
	var all []api.Pos
	for _, s := range texts {
		l, e := solve.All(g, specimen.Parsed(t, g, s))
		if e != api.OK {
			t.Fatalf("%s: %v", s, e)
		}
		all = append(all, l...)
	}
	return pos.Sort(all)
}

// chain returns the list of the chapter's example: from its position 2, the only move leads to 0, and from there to 1, which is over, and lost.
func chain(t *testing.T) (api.Game, []api.Pos) {
	t.Helper()
	g := specimen.Row(t, 3, steppers, "")
	l := listed(t, g, "A.a/0/0/0/0")
	if got := specimen.Texts(g, l); got != ".Aa/0/0/0/1 .a./0/0/0/0 A.a/0/0/0/0" {
		t.Fatal(got)
	}
	return g, l
}

// checkFill checks the results and the loads of a part that is filled.
func checkFill(t *testing.T, g api.Game, l []api.Pos, v []api.Result, part []int, budget int, want []api.Result, wantLoads int) {
	t.Helper()
	got, loads, e := table.Slice(g, l, v, part, budget)
	if e != api.OK || !slices.Equal(got, want) || loads != wantLoads {
		t.Errorf("%v, %v, the budget %d: %v, %d, %v, not %v, %d", v, part, budget, got, loads, e, want, wantLoads)
	}
}

// P15.1, P15.3: the examples of the chapter, with all budgets around the number of positions.
func TestExamples(t *testing.T) {
	g, l := chain(t)
	m := slice.Of(g)
	want := []api.Result{win(1), loss(0), loss(2)}
	for budget, wantLoads := range map[int]int{1: 6, 2: 6, 3: 4, 4: 4, 4000: 4, math.MaxInt: 4} {
		v, loads, e := table.Make(g, m, l, budget)
		if e != api.OK || !slices.Equal(v, want) || loads != wantLoads {
			t.Errorf("the budget %d: %v, %d, %v", budget, v, loads, e)
		}
	}
	if z, e := table.Zero(g, m, l, want); e != api.OK || !slices.Equal(z, []int{1, 0, 2}) {
		t.Errorf("Zero: %v, %v", z, e)
	}
}

// P15.1: what an entry of which the position has one move becomes by the entry after it, whatever that is, and in how many rounds.
func TestNumbers(t *testing.T) {
	g, l := chain(t)
	for _, c := range []struct {
		after, want api.Result
		loads       int
	}{
		{loss(0), win(1), 2}, {loss(1), win(2), 3}, {loss(7), win(8), 9}, {loss(3998), win(3999), 4000}, {loss(3999), win(4000), 4001},
		{win(0), loss(1), 2}, {win(1), loss(2), 3}, {win(7), loss(8), 9}, {win(3998), loss(3999), 4000}, {win(3999), loss(4000), 4001},
		// The round 4000 is the last one, in any case.
		{loss(4000), drawn(0), 4001}, {loss(math.MaxInt), drawn(0), 4001}, {win(4000), drawn(0), 4001}, {win(math.MaxInt), drawn(0), 4001},
		// A draw makes no round, whatever its number is, and numbers below 0 do not.
		{drawn(0), drawn(0), 1}, {drawn(1), drawn(0), 1}, {drawn(math.MaxInt), drawn(0), 1},
		{loss(-1), drawn(0), 1}, {loss(-2), drawn(0), 1}, {loss(math.MinInt), drawn(0), 1}, {win(-1), drawn(0), 1}, {win(-2), drawn(0), 1}, {win(math.MinInt), drawn(0), 1},
		// What is no result makes rounds, but decides nothing.
		{api.Result{}, drawn(0), 2}, {api.Result{N: 5}, drawn(0), 7}, {api.Result{Out: 4, N: 2}, drawn(0), 4}, {api.Result{Out: -1, N: -1}, drawn(0), 1}, {api.Result{Out: 4, N: 9999}, drawn(0), 4001},
	} {
		for _, old := range []api.Result{{}, win(3), drawn(9), loss(math.MaxInt)} {
			v := []api.Result{old, c.after, drawn(4)}
			checkFill(t, g, l, v, []int{0}, 1, []api.Result{c.want, c.after, drawn(4)}, c.loads)
		}
	}
}

// P15.1, P15.4: entries to which no move leads do not matter for the results, though there are as many rounds as they need.
func TestRounds(t *testing.T) {
	g, l := chain(t)
	for _, c := range []struct {
		other api.Result
		loads int
	}{{loss(-1), 1}, {drawn(7), 1}, {win(0), 2}, {win(7), 9}, {loss(7), 9}, {loss(3999), 4001}, {loss(4000), 4001}, {win(math.MaxInt), 4001}, {api.Result{N: 1}, 3}} {
		checkFill(t, g, l, []api.Result{win(5), drawn(0), c.other}, []int{0}, 1, []api.Result{drawn(0), drawn(0), c.other}, c.loads)
		for _, after := range []api.Result{win(-1), win(-2), win(math.MinInt), loss(-1)} {
			checkFill(t, g, l, []api.Result{win(5), after, c.other}, []int{0}, 1, []api.Result{drawn(0), after, c.other}, c.loads)
		}
		// Here, the entry is decided in the round 1.
		checkFill(t, g, l, []api.Result{win(5), loss(0), c.other}, []int{0}, 1, []api.Result{win(1), loss(0), c.other}, 2)
	}
}

// P15.1: parts of the example: none, all, each one by itself, and those that are no slices.
func TestParts(t *testing.T) {
	g, l := chain(t)
	odd := []api.Result{win(8), win(3), loss(5)}
	for _, c := range []struct {
		part  []int
		want  []api.Result
		loads []int // for the budgets 1, 2, 3
	}{
		{nil, odd, []int{0, 0, 0}},
		{[]int{0}, []api.Result{loss(4), win(3), loss(5)}, []int{5, 5, 5}},
		{[]int{1}, []api.Result{win(8), loss(0), loss(5)}, []int{1, 1, 1}},
		{[]int{2}, []api.Result{win(8), win(3), loss(9)}, []int{10, 10, 10}},
		{[]int{0, 1}, []api.Result{win(1), loss(0), loss(5)}, []int{3, 2, 2}},
		{[]int{0, 2}, []api.Result{loss(4), win(3), win(5)}, []int{11, 11, 6}},
		{[]int{1, 2}, []api.Result{win(8), loss(0), loss(9)}, []int{11, 11, 10}},
		{[]int{0, 1, 2}, []api.Result{win(1), loss(0), loss(2)}, []int{6, 5, 3}},
	} {
		for i, loads := range c.loads {
			checkFill(t, g, l, odd, c.part, i+1, c.want, loads)
		}
		checkFill(t, g, l, odd, c.part, math.MaxInt, c.want, c.loads[2])
	}
}

// P15.1: of several moves, the least N of a loss decides, and the greatest one of wins only; the results of positions that are over are theirs, also draws.
func TestChoices(t *testing.T) {
	// The man of the side 0 goes one or two cells, or a cell back; the side 1 has nothing to move.
	g := specimen.Row(t, 4, "kind a\nprog go0 empty\nprog go0 empty go0 empty\nprog go1 empty\nkind b\n", "holds a 3 draw\nholds a 0 win\n")
	l := listed(t, g, ".A.b/00/00/0/0")
	if got := specimen.Texts(g, l); got != "..Ab/00/00/0/1 .A.b/00/00/0/0 A..b/00/00/0/1" {
		t.Fatal(got)
	}
	for _, c := range []struct {
		one, other, want api.Result
	}{
		{loss(3), loss(5), win(4)}, {loss(5), loss(3), win(4)}, {loss(3), win(0), win(4)}, {win(0), loss(3), win(4)}, {loss(2), drawn(0), win(3)}, {drawn(0), loss(2), win(3)},
		{win(3), win(5), loss(6)}, {win(5), win(3), loss(6)}, {win(4), win(4), loss(5)}, {win(-7), win(1), loss(2)}, {win(1), win(-7), loss(2)},
		{win(3), drawn(0), drawn(0)}, {drawn(0), win(3), drawn(0)}, {win(1), api.Result{}, drawn(0)}, {loss(-1), loss(2), win(3)}, {loss(2), loss(-1), win(3)}, {loss(-1), win(0), drawn(0)}, {loss(4000), loss(1), win(2)}, {loss(4000), win(0), drawn(0)},
	} {
		v := []api.Result{c.one, {}, c.other}
		got, _, e := table.Slice(g, l, v, []int{1}, 1)
		if e != api.OK || !slices.Equal(got, []api.Result{c.one, c.want, c.other}) {
			t.Errorf("%v: %v, %v", v, got, e)
		}
	}
	// The side 1 cannot move, but where there is a clause, that one holds.
	checkFill(t, g, l, make([]api.Result, 3), []int{0, 1, 2}, 3, []api.Result{loss(0), win(1), win(0)}, 2)
	far := listed(t, g, "b.A./00/00/0/0")
	if got := specimen.Texts(g, far); got != "b..A/00/00/0/1 b.A./00/00/0/0 bA../00/00/0/1" {
		t.Fatal(got)
	}
	checkFill(t, g, far, make([]api.Result, 3), []int{0, 1}, 3, []api.Result{drawn(0), drawn(0), {}}, 2)
	checkFill(t, g, far, make([]api.Result, 3), []int{0, 1, 2}, 3, []api.Result{drawn(0), win(1), loss(0)}, 2)
}

// changers has a kind whose men go forwards, or become others for good, which also go forwards; men of the last kind wait. Who let the others come to the cell 2 has lost.
const changers = "kind a\nprog go0 empty\nprog become1\nkind b\nprog go0 empty\nkind c\nprog become2\n"

// P15.1, P15.6: numbers count the moves up to the one that leaves the slice, or ends the game, if the side that wins hurries, also where that is not the way to the earliest win, and the other side delays.
func TestZeroOf(t *testing.T) {
	for _, c := range []struct {
		kinds, clauses, p string
		weights           []int
		want              map[string]int
	}{
		// Without changes, it is the number of moves until the end.
		{"kind a\nprog go0 empty\nkind b\nprog become1\n", "", "A..b/00/00/0/0", []int{1, 1}, map[string]int{"A..b/00/00/0/0": 4, ".A.b/00/00/0/1": 3, ".A.b/00/00/0/0": 2, "..Ab/00/00/0/1": 1, "..Ab/00/00/0/0": 0}},
		// At first, the man goes on to win as early as possible; to become another one leaves the slice at once.
		{changers, "holds b 2 loss\n", "A..c/000/000/0/0", []int{2, 1, 1}, map[string]int{
			"A..c/000/000/0/0": 1, ".A.c/000/000/0/1": 2, ".A.c/000/000/0/0": 1, "..Ac/000/000/0/1": 2, "..Ac/000/000/0/0": 1,
			"B..c/000/000/0/1": 4, "B..c/000/000/0/0": 3, ".B.c/000/000/0/1": 2, ".B.c/000/000/0/0": 1, "..Bc/000/000/0/1": 0}},
		// If it has the same weight then, the slice is the same one.
		{changers, "holds b 2 loss\n", "A..c/000/000/0/0", []int{1, 1, 1}, map[string]int{
			"A..c/000/000/0/0": 5, ".A.c/000/000/0/1": 4, ".A.c/000/000/0/0": 3, "..Ac/000/000/0/1": 2, "..Ac/000/000/0/0": 1,
			"B..c/000/000/0/1": 4, "B..c/000/000/0/0": 3, ".B.c/000/000/0/1": 2, ".B.c/000/000/0/0": 1, "..Bc/000/000/0/1": 0}},
		// Here, the side that loses could leave the slice at once, but delays.
		{"kind a\nprog go0 empty\nprog go0 enemy take\nkind b\nprog become1\nprog lose0\n", "", "A..b/00/00/1/0", []int{1, 1}, map[string]int{
			"A..b/00/00/1/0": 5, ".A.b/00/00/1/1": 4, ".A.b/00/00/1/0": 3, "..Ab/00/00/1/1": 2, "..Ab/00/00/1/0": 1, "...A/00/00/1/1": 0,
			".A.b/00/00/0/0": 3, "..Ab/00/00/0/1": 2, "..Ab/00/00/0/0": 1, "...A/00/00/0/1": 0}},
		// Draws have no number, though the slice is left.
		{"kind a\nprog go0 empty\nprog go1 empty\nprog lose0\nkind b\nprog become1\n", "", "A.b/00/00/1/0", []int{1, 1}, map[string]int{
			"A.b/00/00/1/0": 0, ".Ab/00/00/1/1": 0, "A.b/00/00/1/1": 0, ".Ab/00/00/1/0": 0, ".Ab/00/00/0/1": 0, "A.b/00/00/0/1": 0, ".Ab/00/00/0/0": 0, "A.b/00/00/0/0": 0}},
	} {
		g := specimen.Row(t, strings.Index(c.p, "/"), c.kinds, c.clauses)
		l := listed(t, g, c.p)
		v, e := solve.Values(g, l)
		if e != api.OK {
			t.Fatal(e)
		}
		z, e := table.Zero(g, api.Measure{Kinds: c.weights}, l, v)
		if e != api.OK || len(z) != len(l) {
			t.Fatal(z, e)
		}
		for i, p := range l {
			if s := pos.Print(g, p); len(l) != len(c.want) || z[i] != c.want[s] {
				t.Errorf("%q, %v, %s: %d, not %d", c.kinds, c.weights, s, z[i], c.want[s])
			}
		}
	}
}

// P15.1, P15.8: lists that are not closed are refused, then parts that are none, and budgets below 1.
func TestErrors(t *testing.T) {
	g, l := chain(t)
	m, v := slice.Of(g), make([]api.Result, 3)
	twice := []api.Pos{l[0], l[0], l[1], l[2]}
	wrong := specimen.Copied(l[0])
	wrong.Side = 2
	for _, c := range []struct {
		name string
		l    []api.Pos
		v    []api.Result
		want api.Errno
	}{
		{"right", l, v, api.OK}, {"no positions", nil, nil, api.OK}, {"two positions", l[:2], v[:2], api.OK},
		{"no end", []api.Pos{l[0], l[2]}, v[:2], api.ErrList}, {"no middle", l[1:], v[:2], api.ErrList}, {"other order", []api.Pos{l[1], l[0], l[2]}, v, api.ErrList},
		{"twice", twice, make([]api.Result, 4), api.ErrList}, {"not valid", pos.Sort(append([]api.Pos{wrong}, l...)), make([]api.Result, 4), api.ErrList},
	} {
		for _, budget := range []int{1, 4, math.MaxInt, 0, -1, math.MinInt} {
			want := c.want
			if want == api.OK && budget < 1 {
				want = api.ErrTable
			}
			checkError(t, g, c.l, c.v, nil, budget, want)
			if w, loads, e := table.Make(g, m, c.l, budget); e != want || e != api.OK && (len(w) != 0 || loads != 0) {
				t.Errorf("%s, the budget %d: %v, %d, %v", c.name, budget, w, loads, e)
			}
		}
		if z, e := table.Zero(g, m, c.l, c.v); e != c.want || e != api.OK && len(z) != 0 {
			t.Errorf("%s: Zero: %v, %v", c.name, z, e)
		}
	}
	for _, n := range []int{0, 1, 2, 4, 5} {
		checkError(t, g, l, make([]api.Result, n), []int{0}, 1, api.ErrList)
		checkError(t, g, l, make([]api.Result, n), []int{7}, 0, api.ErrList)
		if z, e := table.Zero(g, m, l, make([]api.Result, n)); e != api.ErrList || len(z) != 0 {
			t.Errorf("%d results: Zero: %v, %v", n, z, e)
		}
	}
	for _, part := range [][]int{{3}, {0, 3}, {-1}, {-1, 0}, {1, 0}, {0, 2, 1}, {1, 1}, {0, 0, 1, 2}, {0, 1, 2, 3}, {math.MinInt}, {math.MaxInt}, {0, math.MaxInt}} {
		checkError(t, g, l, v, part, 1, api.ErrTable)
		checkError(t, g, l, v, part, 0, api.ErrTable)
		checkError(t, g, l[1:], v[1:], part, 1, api.ErrList)
	}
	for _, part := range [][]int{nil, {0}, {1}, {2}, {0, 1}, {0, 2}, {1, 2}, {0, 1, 2}} {
		checkError(t, g, l, v, part, 1, api.OK)
		checkError(t, g, l, v, part, 0, api.ErrTable)
		checkError(t, g, l, v, part, math.MinInt, api.ErrTable)
	}
}

// checkError checks whether a part is refused, and with which error.
func checkError(t *testing.T, g api.Game, l []api.Pos, v []api.Result, part []int, budget int, want api.Errno) {
	t.Helper()
	w, loads, e := table.Slice(g, l, v, part, budget)
	if e != want || e != api.OK && (len(w) != 0 || loads != 0) || e == api.OK && len(w) != len(l) {
		t.Errorf("%d positions, %v, the part %v, the budget %d: %v, %d, %v, not %v", len(l), v, part, budget, w, loads, e, want)
	}
}
