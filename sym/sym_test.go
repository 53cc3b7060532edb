package sym_test

import (
	"fmt"
	"math/rand/v2"
	"slices"
	"strings"
	"testing"

	"skewer/api"
	"skewer/board"
	"skewer/game"
	"skewer/pos"
	"skewer/prog"
	"skewer/specimen"
	"skewer/sym"
)

// gameOn returns a valid game on a board with these steps, whose directions are turned into themselves, and whose kind a has no programs.
func gameOn(t *testing.T, next ...[]int) api.Game {
	t.Helper()
	g := api.Game{Board: api.Board{Cells: len(next[0]), Next: next}, Kinds: []api.Kind{{Name: "a"}}, Rights: 1, Blocked: api.Loss, Endless: api.Draw}
	for d := range next {
		g.Board.Turn = append(g.Board.Turn, d)
	}
	return mustBe(t, g)
}

// mustBe returns g, which has to be valid.
func mustBe(t *testing.T, g api.Game) api.Game {
	t.Helper()
	if !game.Valid(g) {
		t.Fatalf("not valid: %v", g)
	}
	return g
}

// with returns g with these programs of its first kind, with commas between them.
func with(t *testing.T, g api.Game, progs string) api.Game {
	t.Helper()
	g.Kinds = slices.Clone(g.Kinds)
	g.Kinds[0].Progs = nil
	for text := range strings.SplitSeq(progs, ", ") {
		p, e := prog.Parse(text)
		if e != api.OK {
			t.Fatalf("%q: %v", text, e)
		}
		g.Kinds[0].Progs = append(g.Kinds[0].Progs, p)
	}
	return mustBe(t, g)
}

// ring returns the steps around a ring of n cells that begins with the first one.
func ring(first, n int) []int {
	var next []int
	for c := range n {
		next = append(next, first+(c+1)%n)
	}
	return next
}

// row returns the game on a row of three cells with these programs and clauses.
func row(t *testing.T, progs, clauses string) api.Game {
	t.Helper()
	return specimen.Row(t, 3, strings.ReplaceAll("kind a\nprog "+progs+"\n", ", ", "\nprog "), clauses)
}

// symOf returns the symmetry with these permutations.
func symOf(cells, dirs []int) api.Sym {
	return api.Sym{Cells: cells, Dirs: dirs}
}

// checkFound checks what is found, and that it is valid.
func checkFound(t *testing.T, name string, g api.Game, want string) {
	t.Helper()
	l := sym.Find(g)
	if got := fmt.Sprint(l); got != want {
		t.Errorf("%s: %s, not %s", name, got, want)
	}
	for _, s := range l {
		if !sym.Valid(g, s) {
			t.Errorf("%s: %v is not valid", name, s)
		}
	}
}

// checkCount checks how many symmetries are found, and that they are valid.
func checkCount(t *testing.T, name string, g api.Game, want int) {
	t.Helper()
	l := sym.Find(g)
	if len(l) != want {
		t.Errorf("%s: %d, not %d: %v", name, len(l), want, l)
	}
	for i, s := range l {
		if !sym.Valid(g, s) || i > 0 && slices.Compare(l[i-1].Cells, s.Cells) >= 0 {
			t.Errorf("%s: %v", name, s)
		}
	}
}

// P11.1: the examples of the chapter.
func TestExamples(t *testing.T) {
	const identity, both = "[{[0 1 2] [0 1]}]", "[{[0 1 2] [0 1]} {[2 1 0] [1 0]}]"
	checkFound(t, "one direction", row(t, "slide0", ""), identity)
	checkFound(t, "two directions", row(t, "slide0, slide1", ""), both)
	checkFound(t, "a cell that is held", row(t, "slide0, slide1", "holds a 0 win\n"), identity)
	for _, progs := range []string{"go0", "go0, go1", "slide0 take, slide1, push1"} {
		g := specimen.Row(t, 1, strings.ReplaceAll("kind a\nprog "+progs+"\n", ", ", "\nprog "), "")
		checkFound(t, "one cell, "+progs, g, "[{[0] [0 1]}]")
	}
}

// mirror returns the symmetry that exchanges both ends of a row of three cells.
func mirror() api.Sym {
	return symOf([]int{2, 1, 0}, []int{1, 0})
}

// P11.1, P11.5: programs of a kind are preserved in any order, and as many of each; the kinds are not exchanged.
func TestPrograms(t *testing.T) {
	for progs, two := range map[string]bool{
		"empty":                      true,
		"slide1, slide0":             true,
		"slide0 go1, slide1 go0":     true,
		"slide0 go1, go0 slide1":     false,
		"slide0 slide1":              false,
		"slide0, slide1, slide0":     false,
		"slide0, slide1, slide1 go1": false,
		"go0, slide1, slide0, go1":   true,
		"go0, slide1":                false,
		"push0, push1":               true,
		"push0, go1":                 false,
		"go0, go1, go1, go0":         true,
		"go0, go1, go1, go1":         false,
		// Other numbers are no directions.
		"need0, become0":         true,
		"go0 need0, go1 need0":   true,
		"go0 take, go1":          false,
		"go0 need0, go1 lose0":   false,
		"need0 go0, go0 need0":   false,
		"empty go0, empty go1":   true,
		"enemy go0, friend go1":  false,
		"enemy go0, empty, go1":  false,
		"go0, go0 go0, go1, go1": false,
	} {
		g := row(t, progs, "")
		if sym.Valid(g, mirror()) != two || (len(sym.Find(g)) == 2) != two {
			t.Errorf("%s: not %v, %v", progs, two, sym.Find(g))
		}
	}
	g := specimen.Row(t, 3, "kind a\nprog go0\nkind b\nprog go1\n", "")
	if sym.Valid(g, mirror()) || len(sym.Find(g)) != 1 {
		t.Error("the kinds are exchanged")
	}
	g = specimen.Row(t, 3, "kind a\nprog go0\nprog go1\nkind b\nprog go1\n", "")
	if sym.Valid(g, mirror()) || len(sym.Find(g)) != 1 {
		t.Error("the second kind is not preserved")
	}
	g = specimen.Row(t, 3, "kind a\n", "")
	if !sym.Valid(g, mirror()) || len(sym.Find(g)) != 2 {
		t.Error("without programs")
	}
}

// P11.1, P11.5: a cell that a clause Holds names goes to itself; what other clauses name is no cell.
func TestClauses(t *testing.T) {
	for clauses, two := range map[string]bool{
		"holds a 1 win\n":                true,
		"holds a 2 win\n":                false,
		"holds a 0 win\nholds a 2 win\n": false,
		"holds a 1 win\nholds a 1 win\n": true,
		"holds a 1 win\nholds a 0 win\n": false,
		"few 0 win\nfew 2 loss\n":        true,
		"lacks a draw\n":                 true,
		"must\n":                         true,
		"few 0 win\nholds a 0 win\n":     false,
	} {
		g := row(t, "go0, go1", clauses)
		if sym.Valid(g, mirror()) != two || (len(sym.Find(g)) == 2) != two {
			t.Errorf("%q: not %v, %v", clauses, two, sym.Find(g))
		}
	}
}

// P11.1: what is no permutation of the cells, or of the directions, is no symmetry.
func TestNone(t *testing.T) {
	g := row(t, "go0, go1", "")
	noCells := [][]int{nil, {0}, {1, 0}, {0, 1, 2, 3}, {2, 1, 0, 3}, {0, 0, 0}, {2, 1, 1}, {2, 1, 2}, {2, 2, 0}, {0, 0, 2}, specimen.Edges()}
	noDirs := [][]int{nil, {0}, {1}, {0, 1, 2}, {1, 0, 2}, {0, 0}, {1, 1}, specimen.Edges()}
	for _, n := range specimen.Edges() {
		if n < 0 || n > 2 {
			noCells = append(noCells, []int{2, 1, n}, []int{n, 1, 0}, []int{0, n, 2})
			noDirs = append(noDirs, []int{1, n}, []int{n, 0}, []int{0, n})
		}
	}
	for _, right := range []api.Sym{{Cells: []int{0, 1, 2}, Dirs: []int{0, 1}}, mirror()} {
		if !sym.Valid(g, right) {
			t.Error("not", right)
		}
		for _, l := range noCells {
			if sym.Valid(g, symOf(l, right.Dirs)) {
				t.Errorf("the cells %v", l)
			}
		}
		for _, l := range noDirs {
			if sym.Valid(g, symOf(right.Cells, l)) {
				t.Errorf("the directions %v", l)
			}
		}
	}
}

// P11.1: steps that are there go to steps that are there, and those that are not to those that are not.
func TestSteps(t *testing.T) {
	for _, c := range []struct {
		next [][]int
		s    api.Sym
		want bool
	}{
		{[][]int{{1, -1}}, symOf([]int{1, 0}, []int{0}), false},
		{[][]int{{1, 0}}, symOf([]int{1, 0}, []int{0}), true},
		{[][]int{{0, 1}}, symOf([]int{1, 0}, []int{0}), true},
		{[][]int{{0, 0}}, symOf([]int{1, 0}, []int{0}), false},
		{[][]int{{0, -1}}, symOf([]int{1, 0}, []int{0}), false},
		{[][]int{{-1, -1}}, symOf([]int{1, 0}, []int{0}), true},
		{[][]int{{1, -1}, {-1, 0}}, symOf([]int{1, 0}, []int{1, 0}), true},
		{[][]int{{1, -1}, {-1, 0}}, symOf([]int{0, 1}, []int{1, 0}), false},
		{[][]int{{1, -1}, {-1, 0}}, symOf([]int{1, 0}, []int{0, 1}), false},
		{[][]int{{1, -1}, {1, -1}}, symOf([]int{0, 1}, []int{1, 0}), true},
		{[][]int{{0, 1}, {-1, -1}}, symOf([]int{0, 1}, []int{1, 0}), false},
		{[][]int{{2, 2, -1}}, symOf([]int{1, 0, 2}, []int{0}), true},
	} {
		if got := sym.Valid(gameOn(t, c.next...), c.s); got != c.want {
			t.Errorf("%v, %v: %v", c.next, c.s, got)
		}
	}
}

// P11.1: Turn is preserved, too.
func TestTurn(t *testing.T) {
	dead := []int{-1, -1}
	g := gameOn(t, dead, dead, dead)
	g.Board.Turn = []int{0, 2, 1}
	for _, cells := range [][]int{{0, 1}, {1, 0}} {
		for _, dirs := range [][]int{{1, 0, 2}, {1, 2, 0}, {2, 0, 1}, {2, 1, 0}} {
			if sym.Valid(mustBe(t, g), symOf(cells, dirs)) {
				t.Errorf("%v, %v", cells, dirs)
			}
		}
		for _, dirs := range [][]int{{0, 1, 2}, {0, 2, 1}} {
			if !sym.Valid(g, symOf(cells, dirs)) {
				t.Errorf("not %v, %v", cells, dirs)
			}
		}
	}
}

// P11.1: of several Dirs, those are found that come first, as far as Turn and the programs allow.
func TestLeastDirs(t *testing.T) {
	// The directions 0 and 3 lead from the cell 0 to the cell 1, the others back.
	there, back := []int{1, -1}, []int{-1, 0}
	for _, c := range []struct {
		progs string
		turn  []int
		want  string
	}{
		{"go0, go1, go2, go3", []int{0, 1, 2, 3}, "[{[0 1] [0 1 2 3]} {[1 0] [1 0 3 2]}]"},
		{"go0, go1, go2, go3", []int{3, 2, 1, 0}, "[{[0 1] [0 1 2 3]} {[1 0] [1 0 3 2]}]"},
		{"go0, go1, go2, go3", []int{1, 0, 3, 2}, "[{[0 1] [0 1 2 3]} {[1 0] [1 0 3 2]}]"},
		{"go0, go1, go2, go3", []int{0, 3, 2, 1}, "[{[0 1] [0 1 2 3]} {[1 0] [2 3 0 1]}]"},
		{"go0, go1, go2, go3", []int{0, 2, 1, 3}, "[{[0 1] [0 1 2 3]}]"},
		{"go0 go1, go2 go3", []int{0, 1, 2, 3}, "[{[0 1] [0 1 2 3]} {[1 0] [2 3 0 1]}]"},
		{"go0 go1, go2 go3", []int{3, 2, 1, 0}, "[{[0 1] [0 1 2 3]} {[1 0] [2 3 0 1]}]"},
		{"go0 go1, go2 go3", []int{1, 0, 2, 3}, "[{[0 1] [0 1 2 3]}]"},
		{"go0 go1, go3 go2", []int{3, 2, 1, 0}, "[{[0 1] [0 1 2 3]}]"},
		{"go0 go1, go1 go0", []int{3, 2, 1, 0}, "[{[0 1] [0 1 2 3]} {[1 0] [1 0 3 2]}]"},
		{"go0 go2, go2 go0", []int{3, 2, 1, 0}, "[{[0 1] [0 1 2 3]} {[1 0] [2 3 0 1]}]"},
		{"go0, go2", []int{0, 1, 2, 3}, "[{[0 1] [0 1 2 3]} {[1 0] [2 3 0 1]}]"},
	} {
		g := gameOn(t, there, back, back, there)
		g.Board.Turn = c.turn
		checkFound(t, c.progs+fmt.Sprint(c.turn), with(t, g, c.progs), c.want)
	}
	g := gameOn(t, there, there, there)
	checkFound(t, "the same steps", g, "[{[0 1] [0 1 2]}]")
}

// P11.1, P11.5: the symmetries of grids are those of rectangles and squares, of which programs and cells that are held may leave a part.
func TestGrids(t *testing.T) {
	const all, rook, bishop, up = "go0, go1, go2, go3, go4, go5, go6, go7", "go0, go2, go4, go6", "go1, go3, go5, go7", "go0"
	for _, c := range []struct {
		w, h  int
		progs string
		held  []int
		want  int
	}{
		{1, 1, all, nil, 1}, {2, 1, all, nil, 2}, {7, 1, all, nil, 2}, {1, 8, all, nil, 2}, {2, 2, all, nil, 8}, {3, 3, all, nil, 8}, {8, 8, all, nil, 8}, {8, 7, all, nil, 4}, {16, 4, all, nil, 4}, {64, 1, all, nil, 2},
		{8, 8, rook, nil, 8}, {8, 8, bishop, nil, 8}, {8, 8, up, nil, 2}, {7, 8, rook, nil, 4}, {7, 8, up, nil, 2}, {8, 8, "go0, go2", nil, 2}, {8, 8, "go0, go1", nil, 1}, {8, 8, "go0, go4", nil, 4}, {8, 8, "go1, go2 go0", nil, 1}, {8, 8, "go0, go1, go7", nil, 2}, {8, 8, "empty", nil, 8},
		{3, 3, all, []int{4}, 8}, {3, 3, all, []int{0}, 2}, {3, 3, all, []int{1}, 2}, {3, 3, all, []int{0, 1}, 1}, {3, 3, all, []int{0, 8}, 2}, {3, 3, all, []int{2, 2}, 2}, {8, 8, all, []int{1}, 1}, {8, 8, rook, []int{9}, 2},
	} {
		b, e := board.Grid(c.w, c.h)
		if e != api.OK {
			t.Fatal(c, e)
		}
		g := with(t, api.Game{Board: b, Kinds: []api.Kind{{Name: "a"}}, Blocked: api.Loss, Endless: api.Draw}, c.progs)
		for _, cell := range c.held {
			g.Clauses = append(g.Clauses, api.Clause{If: api.Holds, N: cell, Then: api.Win})
		}
		checkCount(t, fmt.Sprint(c), mustBe(t, g), c.want)
	}
}

// P11.1, P11.5: how many symmetries boards have of which it is known; where several steps lead to one cell, too, and where there are several parts.
func TestCounts(t *testing.T) {
	r := rand.New(rand.NewPCG(7, 8))
	for _, c := range []struct {
		name string
		next [][]int
		want int
	}{
		{"a ring", [][]int{ring(0, 64)}, 64},
		{"a ring in both directions", [][]int{ring(0, 5), {4, 0, 1, 2, 3}}, 10},
		{"two rings", [][]int{append(ring(0, 5), ring(5, 5)...)}, 50},
		{"two rings of different lengths", [][]int{append(ring(0, 6), ring(6, 5)...)}, 30},
		{"rings of two lengths", [][]int{slices.Concat(ring(0, 6), ring(6, 3), ring(9, 3))}, 108},
		{"a ring that in the other direction is two", [][]int{ring(0, 6), append(ring(0, 3), ring(3, 3)...)}, 2},
		{"the same, and another part the other way around", [][]int{slices.Concat(ring(0, 6), ring(6, 3), ring(9, 3)), slices.Concat(ring(0, 3), ring(3, 3), ring(6, 6))}, 8},
		{"six cells without steps", [][]int{slices.Repeat([]int{-1}, 6)}, 720},
		{"six cells that lead to themselves", [][]int{{0, 1, 2, 3, 4, 5}}, 720},
		{"both", [][]int{{0, 1, 2, -1, -1, -1}}, 36},
		{"six cells that lead to one", [][]int{{6, 6, 6, 6, 6, 6, -1}}, 720},
		{"the same in all directions", slices.Repeat([][]int{{6, 6, 6, 6, 6, 6, -1}}, 8), 720},
		{"six directions that lead to one", [][]int{{6, -1, -1, -1, -1, -1, -1}, {-1, 6, -1, -1, -1, -1, -1}, {-1, -1, 6, -1, -1, -1, -1}, {-1, -1, -1, 6, -1, -1, -1}, {-1, -1, -1, -1, 6, -1, -1}, {-1, -1, -1, -1, -1, 6, -1}}, 720},
		{"a tree", [][]int{{-1, 0, 0, 1, 1, 2, 2}}, 8},
		{"a tree with a longer branch", [][]int{{-1, 0, 0, 1, 1, 2, 2, 6}}, 2},
		{"two trees", [][]int{{-1, 0, 0, 1, 1, 2, 2, -1, 7, 7, 8, 8, 9, 9}}, 128},
		{"pairs on a ring", [][]int{{8, 8, 9, 9, 10, 10, 11, 11, 9, 10, 11, 8}}, 64},
		{"pairs on half of a ring", [][]int{{8, 8, 9, 9, 10, 10, 12, 13, 9, 10, 11, 8, 11, 12}}, 8},
		// An edge is a cell from which the two directions lead to both of its ends.
		{"edges in a ring of six", edges(6), 12},
		{"edges in two rings of three", edges(3, 3), 36},
		{"edges in three rings", edges(3, 6, 3), 216},
		{"edges in two rings of four and one of eight", edges(8, 4, 4), 512},
	} {
		checkCount(t, c.name, gameOn(t, c.next...), c.want)
		// It does not matter which numbers the cells have.
		for range 5 {
			checkCount(t, c.name+", with other numbers", gameOn(t, renumbered(r.Perm(len(c.next[0])), c.next)...), c.want)
		}
	}
}

// edges returns the steps of a board with edges in rings of these lengths: each ring has its cells, and then its edges.
func edges(lengths ...int) [][]int {
	next := make([][]int, 2)
	for _, n := range lengths {
		first := len(next[0])
		for d := range next {
			next[d] = append(next[d], slices.Repeat([]int{-1}, n)...)
		}
		for c := range n {
			next[0] = append(next[0], first+c)
			next[1] = append(next[1], first+(c+1)%n)
		}
	}
	return next
}

// renumbered returns the steps with the number to[c] in place of the cell c.
func renumbered(to []int, next [][]int) [][]int {
	var all [][]int
	for _, row := range next {
		other := slices.Clone(row)
		for c, after := range row {
			if after >= 0 {
				after = to[after]
			}
			other[to[c]] = after
		}
		all = append(all, other)
	}
	return all
}

// P11.1: images, for each cell and permutation, also of directions that say nothing; hands, rights and the side remain.
func TestApply(t *testing.T) {
	p := api.Pos{At: []int{5, 6, 7, 7}, Hand: [2][]int{{1, 0}, {2, 8}}, Rights: 3, Side: 1}
	for _, c := range []struct{ cells, want []int }{
		{[]int{0, 1, 2, 3}, []int{5, 6, 7, 7}},
		{[]int{1, 2, 3, 0}, []int{7, 5, 6, 7}},
		{[]int{3, 0, 1, 2}, []int{6, 7, 7, 5}},
		{[]int{1, 0, 3, 2}, []int{6, 5, 7, 7}},
		{[]int{0, 1, 3, 2}, []int{5, 6, 7, 7}},
	} {
		for _, dirs := range [][]int{nil, {0}, {1, 0}} {
			q := p
			q.At = c.want
			if got := sym.Apply(symOf(c.cells, dirs), p); pos.Compare(got, q) != 0 {
				t.Errorf("%v: %v, not %v", c.cells, got, q)
			}
		}
	}
}

// P11.1: what two symmetries do one after the other, and what takes one back.
func TestCompose(t *testing.T) {
	for _, c := range []struct{ a, b, both, back api.Sym }{
		{symOf([]int{1, 2, 0}, []int{0, 1}), symOf([]int{1, 0, 2}, []int{1, 0}), symOf([]int{0, 2, 1}, []int{1, 0}), symOf([]int{2, 0, 1}, []int{0, 1})},
		{symOf([]int{1, 0, 2}, []int{1, 0}), symOf([]int{1, 2, 0}, []int{0, 1}), symOf([]int{2, 1, 0}, []int{1, 0}), symOf([]int{1, 0, 2}, []int{1, 0})},
		{symOf([]int{0}, []int{1, 2, 3, 0}), symOf([]int{0}, []int{0, 2, 1, 3}), symOf([]int{0}, []int{2, 1, 3, 0}), symOf([]int{0}, []int{3, 0, 1, 2})},
		{symOf(nil, nil), symOf(nil, nil), symOf(nil, nil), symOf(nil, nil)},
	} {
		if got := sym.Compose(c.a, c.b); fmt.Sprint(got) != fmt.Sprint(c.both) {
			t.Errorf("%v, then %v: %v, not %v", c.a, c.b, got, c.both)
		}
		if got := sym.Inverse(c.a); fmt.Sprint(got) != fmt.Sprint(c.back) {
			t.Errorf("%v back: %v, not %v", c.a, got, c.back)
		}
	}
}

// P11.1: the least image, and the first symmetry that gives it; without symmetries, the position itself.
func TestCanon(t *testing.T) {
	id, turn, swap := symOf([]int{0, 1, 2}, nil), symOf([]int{1, 2, 0}, nil), symOf([]int{0, 2, 1}, nil)
	for _, c := range []struct {
		l        []api.Sym
		at, want []int
		index    int
	}{
		{nil, []int{2, 1, 0}, []int{2, 1, 0}, -1},
		{[]api.Sym{id}, []int{2, 1, 0}, []int{2, 1, 0}, 0},
		{[]api.Sym{id, turn}, []int{2, 1, 0}, []int{0, 2, 1}, 1},
		{[]api.Sym{turn, id}, []int{2, 1, 0}, []int{0, 2, 1}, 0},
		{[]api.Sym{id, turn, swap}, []int{0, 0, 0}, []int{0, 0, 0}, 0},
		{[]api.Sym{turn}, []int{0, 1, 2}, []int{2, 0, 1}, 0},
		{[]api.Sym{swap, id, swap}, []int{3, 1, 1}, []int{3, 1, 1}, 0},
		{[]api.Sym{id, swap, swap}, []int{3, 2, 1}, []int{3, 1, 2}, 1},
	} {
		p := api.Pos{At: c.at, Hand: [2][]int{{1}, {2}}, Rights: 1, Side: 1}
		want := p
		want.At = c.want
		if got, i := sym.Canon(c.l, p); pos.Compare(got, want) != 0 || i != c.index {
			t.Errorf("%v, %v: %v, %d", c.l, p, got, i)
		}
	}
}
