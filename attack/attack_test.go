package attack_test

import (
	"fmt"
	"math"
	"slices"
	"strings"
	"testing"

	"skewer/api"
	"skewer/attack"
	"skewer/game"
	"skewer/specimen"
)

// row returns the game on a row of five cells whose kind a has these programs, with commas between them, whose kind b is kept and has none, and which has these clauses.
func row(t *testing.T, progs, clauses string) api.Game {
	t.Helper()
	lines := ""
	if progs != "" {
		lines = strings.ReplaceAll("prog "+progs+"\n", ", ", "\nprog ")
	}
	return specimen.Row(t, 5, "kind a\n"+lines+"kind b keep\n", clauses)
}

// checkLines checks the cells of men, what they read, and what they take.
func checkLines(t *testing.T, g api.Game, a api.Attack, want string) {
	t.Helper()
	if got := fmt.Sprint(a.Men); got != want {
		t.Errorf("%v, %v: %s, not %s", g.Kinds, a.Pos, got, want)
	}
}

// checkMake checks the lines of the men of a position, for both turns.
func checkMake(t *testing.T, g api.Game, s, want string) {
	t.Helper()
	p := specimen.Parsed(t, g, s)
	for side := range 2 {
		p.Side = side
		a := attack.Make(g, p)
		checkLines(t, g, a, want)
		if fmt.Sprint(a.Pos) != fmt.Sprint(p) {
			t.Errorf("%v, not %v", a.Pos, p)
		}
	}
}

// P10.1: the example of the chapter.
func TestExample(t *testing.T) {
	g, e := game.Parse("board 4 1\ndir 1 2 3 -1\nturn 0\nkind a\nprog slide0 take\nrights 0\nblocked loss\nendless draw\n")
	if e != api.OK {
		t.Fatal(e)
	}
	checkMake(t, g, "A.a./0/0/0/0", "[{0 [0 1 2] [2]} {2 [2 3] []}]")
	a := attack.Make(g, specimen.Parsed(t, g, "A.a./0/0/0/1"))
	q := specimen.Parsed(t, g, "A..a/0/0/0/0")
	if got := attack.Stale(g, a, q); !slices.Equal(got, []int{0, 3}) {
		t.Error(got)
	}
	checkLines(t, g, attack.Update(g, a, q), "[{0 [0 1 2 3] [3]} {3 [3] []}]")
}

// P10.1, P10.7: what men read: all cells to which a cursor comes with any program, in increasing order, each once; and their own cell, always.
func TestReads(t *testing.T) {
	for _, c := range []struct{ progs, p, want string }{
		{"go0", "...../00/00/0/0", "[]"},
		{"", "A.b../00/00/0/0", "[{0 [0] []} {2 [2] []}]"},
		{"go0", "aBAb./00/00/0/0", "[{0 [0] []} {1 [1] []} {2 [2 3] []} {3 [3] []}]"},
		{"go0", "A...A/00/00/0/0", "[{0 [0 1] []} {4 [4] []}]"},
		{"go0", "a...a/00/00/0/0", "[{0 [0] []} {4 [3 4] []}]"},
		{"go1, go0", "..A../00/00/0/0", "[{2 [1 2 3] []}]"},
		{"go1, go0, go1 empty, slide1", "..A../00/00/0/0", "[{2 [0 1 2 3] []}]"},
		{"slide0", "A.a.A/00/00/0/0", "[{0 [0 1 2] []} {2 [0 1 2] []} {4 [4] []}]"},
		{"slide0 slide1", "..A.B/00/00/0/0", "[{2 [0 1 2 3 4] []} {4 [4] []}]"},
		// Cells are read by programs without an outcome, too, but none after the last step that can be done.
		{"go0 enemy go0", "A..../00/00/0/0", "[{0 [0 1] []}]"},
		{"go0 friend take go0", "AB.../00/00/0/0", "[{0 [0 1] []} {1 [1] []}]"},
		{"go0 empty friend go0", "A..../00/00/0/0", "[{0 [0 1] []}]"},
		// A push looks at the next cell if there is a man.
		{"go0 push0", "AB.../00/00/0/0", "[{0 [0 1 2] []} {1 [1] []}]"},
		{"go0 push0", "AbB../00/00/0/0", "[{0 [0 1 2] []} {1 [1] []} {2 [2] []}]"},
		{"go0 push0", "A..../00/00/0/0", "[{0 [0 1] []}]"},
		// Rights are needed before cells are read.
		{"need0 go0", "A..../00/00/0/0", "[{0 [0] []}]"},
		{"need0 go0", "A..../00/00/1/0", "[{0 [0 1] []}]"},
		{"lose0 need0 go0", "A..../00/00/1/0", "[{0 [0] []}]"},
	} {
		checkMake(t, row(t, c.progs, ""), c.p, c.want)
	}
}

// P10.1, P10.4: what men take: all cells with men of the other side that are others, or are not there, in an outcome with a capture.
func TestTakes(t *testing.T) {
	for _, c := range []struct{ progs, p, want string }{
		{"go0 take", "Aa.AB/00/00/0/0", "[{0 [0 1] [1]} {1 [0 1] [0]} {3 [3 4] []} {4 [4] []}]"},
		{"slide1 take, slide0 take", "b.A.b/00/00/0/0", "[{0 [0] []} {2 [0 1 2 3 4] [0 4]} {4 [4] []}]"},
		{"slide0 take, slide0 enemy take", "A.b../00/00/0/0", "[{0 [0 1 2] [2]} {2 [2] []}]"},
		{"go0 take go0 take", "Abb../00/00/0/0", "[{0 [0 1 2] [1 2]} {1 [1] []} {2 [2] []}]"},
		{"go0 take go1", "Ab.../00/00/0/0", "[{0 [0 1] [1]} {1 [1] []}]"},
		{"go0 take lose0 become1", "Ab.../00/00/1/0", "[{0 [0 1] [1]} {1 [1] []}]"},
		// Without an outcome, nothing is taken.
		{"go0 take go0", "AbB../00/00/0/0", "[{0 [0 1 2] []} {1 [1] []} {2 [2] []}]"},
		{"go0 take go0 take", "Ab.../00/00/0/0", "[{0 [0 1 2] []} {1 [1] []}]"},
		{"go0 take need0", "Ab.../00/00/0/0", "[{0 [0 1] []} {1 [1] []}]"},
		// A right has to be there, and the hand of the man's side must not be full.
		{"need0 go0 take", "Ab.../00/00/0/0", "[{0 [0] []} {1 [1] []}]"},
		{"need0 go0 take", "Ab.../00/00/1/0", "[{0 [0 1] [1]} {1 [1] []}]"},
		{"go0 take", "Ab.Ba/07/08/0/0", "[{0 [0 1] [1]} {1 [1] []} {3 [3] []} {4 [3 4] []}]"},
		{"go0 take", "Ab.Ba/08/07/0/0", "[{0 [0 1] []} {1 [1] []} {3 [3] []} {4 [3 4] [3]}]"},
		{"go0 take", "Aa.Aa/08/08/0/0", "[{0 [0 1] [1]} {1 [0 1] [0]} {3 [3 4] [4]} {4 [3 4] [3]}]"},
		// What is pushed is not taken by a program that captures nothing; by one that captures, what is another one then is.
		{"go0 push0", "Ab.../00/00/0/0", "[{0 [0 1 2] []} {1 [1] []}]"},
		{"go0 take go0 push0", "Abb../00/00/0/0", "[{0 [0 1 2 3] [1 2]} {1 [1] []} {2 [2] []}]"},
		{"go0 take go0 push0", "AbB../00/00/0/0", "[{0 [0 1 2 3] [1]} {1 [1] []} {2 [2] []}]"},
		{"go0 take go0 push1", "Abb../00/00/0/0", "[{0 [0 1 2] [2]} {1 [1] []} {2 [2] []}]"},
		{"go0 take go0 push1 lose0", "AaB../00/00/0/0", "[{0 [0 1 2] [1]} {1 [0 1] []} {2 [2] []}]"},
		{"go0 go0 take go1 push0", "Abb../00/00/0/0", "[{0 [0 1 2] [1]} {1 [1] []} {2 [2] []}]"},
		// What one program pushes is not taken, even if another one captures.
		{"go0 push0, slide1 take", "b.Ab./00/00/0/0", "[{0 [0] []} {2 [0 1 2 3 4] [0]} {3 [3] []}]"},
	} {
		checkMake(t, row(t, c.progs, ""), c.p, c.want)
	}
}

// P10.1: clauses and Must make no difference.
func TestRules(t *testing.T) {
	const want = "[{0 [0 1] [1]} {1 [0 1] [0]} {3 [3 4] []}]"
	for _, clauses := range []string{"", "must\n", "few 64 loss\n", "lacks b win\n", "must\nholds a 0 draw\nholds a 1 draw\n"} {
		checkMake(t, row(t, "go0 take, go0 empty", clauses), "Aa.A./00/00/0/0", want)
	}
}

// P10.1, P10.3: men are concerned by other men on their cells, by what they read, and by rights and hands, but not by the turn, nor by what they do not read; and the lines are right after that.
func TestStale(t *testing.T) {
	g := row(t, "slide0 take", "")
	for _, c := range []struct {
		p, q string
		want []int
	}{
		{"Ab.Ab/01/02/1/0", "Ab.Ab/01/02/1/0", nil},
		{"Ab.Ab/01/02/1/0", "Ab.Ab/01/02/1/1", nil},
		{"Ab.Ab/01/02/1/0", "Ab.Ab/01/02/0/0", []int{0, 1, 3, 4}},
		{"Ab.Ab/01/02/0/0", "Ab.Ab/01/02/1/0", []int{0, 1, 3, 4}},
		{"Ab.Ab/01/02/1/0", "Ab.Ab/00/02/1/0", []int{0, 1, 3, 4}},
		{"Ab.Ab/01/02/1/0", "Ab.Ab/01/03/1/0", []int{0, 1, 3, 4}},
		{"..b../01/02/1/0", "...../01/03/0/1", nil},
		// The man is another one.
		{"Ab.A./00/00/0/0", "Bb.A./00/00/0/0", []int{0}},
		{"Ab.A./00/00/0/0", "ab.A./00/00/0/0", []int{0}},
		{".b.b./00/00/0/0", ".B.b./00/00/0/0", []int{1}},
		// It was not there, or is not there any more.
		{"Ab.../00/00/0/0", "Ab..A/00/00/0/0", []int{4}},
		{"...../00/00/0/0", "A..bA/00/00/0/0", []int{0, 3, 4}},
		{"Ab..A/00/00/0/0", "Ab.../00/00/0/0", nil},
		{"Ab..A/00/00/0/0", "...../00/00/0/0", nil},
		// It reads what has changed.
		{"A.b.A/00/00/0/0", "A...A/00/00/0/0", []int{0}},
		{"A.b.A/00/00/0/0", "A.B.A/00/00/0/0", []int{0, 2}},
		{"A.b.A/00/00/0/0", "A.a.A/00/00/0/0", []int{0, 2}},
		{"A.b.A/00/00/0/0", "AB..A/00/00/0/0", []int{0, 1}},
		{"A.b.a/00/00/0/0", "A.bb./00/00/0/0", []int{3}},
		{"A.b.a/00/00/0/0", "A.bba/00/00/0/0", []int{3, 4}},
		// What has changed is behind what it reads, until that goes.
		{"AbB../00/00/0/0", "Ab.../00/00/0/0", nil},
		{"AbB../00/00/0/0", "A..../00/00/0/0", []int{0}},
	} {
		p, q := specimen.Parsed(t, g, c.p), specimen.Parsed(t, g, c.q)
		a := attack.Make(g, p)
		if got := attack.Stale(g, a, q); !slices.Equal(got, c.want) {
			t.Errorf("%s, then %s: %v, not %v", c.p, c.q, got, c.want)
		}
		checkRight(t, g, q, attack.Update(g, a, q))
	}
}

// P10.1, P10.3: what is pushed, and where it is pushed, is read: so men are concerned by it.
func TestStalePush(t *testing.T) {
	g := row(t, "go0 push0", "")
	a := attack.Make(g, specimen.Parsed(t, g, "Ab.../00/00/0/0"))
	for s, want := range map[string][]int{"Abb../00/00/0/0": {0, 2}, "Ab.b./00/00/0/0": {3}, "A..b./00/00/0/0": {0, 3}, "AB.../00/00/0/1": {0, 1}} {
		q := specimen.Parsed(t, g, s)
		if got := attack.Stale(g, a, q); !slices.Equal(got, want) {
			t.Errorf("%s: %v, not %v", s, got, want)
		}
		checkRight(t, g, q, attack.Update(g, a, q))
	}
}

// P10.1, P10.5: the men of a side that take a cell are counted; for numbers of no cell and of no side there are none.
func TestOn(t *testing.T) {
	g := row(t, "slide0 take, slide1 take", "")
	a := attack.Make(g, specimen.Parsed(t, g, "A.b.A/00/00/0/0"))
	b := attack.Make(g, specimen.Parsed(t, g, "aA.bA/00/00/0/1"))
	for _, c := range []struct {
		a                api.Attack
		cell, side, want int
	}{
		{a, 2, 0, 2}, {a, 2, 1, 0}, {a, 0, 0, 0}, {a, 0, 1, 0}, {a, 1, 0, 0}, {a, 4, 1, 0},
		{b, 0, 0, 1}, {b, 1, 1, 1}, {b, 3, 0, 2}, {b, 3, 1, 0}, {b, 4, 1, 0}, {b, 2, 0, 0},
		{a, 2, -1, 0}, {a, 2, 2, 0}, {a, 2, math.MinInt, 0}, {a, 2, math.MaxInt, 0},
		{a, -1, 0, 0}, {a, 5, 0, 0}, {a, 64, 0, 0}, {a, math.MinInt, 0, 0}, {a, math.MaxInt, 1, 0},
		{attack.Make(g, specimen.Parsed(t, g, "...../00/00/0/0")), 0, 0, 0},
	} {
		if got := attack.On(c.a, c.cell, c.side); got != c.want {
			t.Errorf("%v, the cell %d, the side %d: %d, not %d", c.a, c.cell, c.side, got, c.want)
		}
	}
}
