package back_test

import (
	"testing"

	"skewer/api"
	"skewer/back"
	"skewer/game"
	"skewer/pos"
	"skewer/specimen"
)

// great returns a game in which a man of the side 0 on the cell 16 can have come there from 4000 positions: from 6 cells, with a capture of one of 6 kinds on the cell 15 and then one on the cell 16; from 5 cells, with a capture on the cell 16; and from 4 cells; where each of 4 rights may have been lost. The side 1 can only go with an f from the cell 17 to the cell 18. The kind a has more programs, if there are more lines.
func great(t *testing.T, more string) api.Game {
	t.Helper()
	g, e := game.Parse(`board 19 8
dir 15 15 15 15 15 15 -1 -1 -1 -1 -1 -1 -1 -1 -1 -1 -1 -1 -1
dir -1 -1 -1 -1 -1 -1 -1 -1 -1 -1 -1 -1 -1 -1 -1 16 -1 -1 -1
dir -1 -1 -1 -1 -1 -1 16 16 16 16 16 -1 -1 -1 -1 -1 -1 -1 -1
dir -1 -1 -1 -1 -1 -1 -1 -1 -1 -1 -1 16 16 16 16 -1 -1 -1 -1
dir -1 -1 -1 -1 -1 -1 -1 -1 -1 -1 -1 -1 -1 -1 -1 -1 -1 18 -1
dir -1 -1 -1 -1 -1 -1 -1 -1 -1 -1 -1 -1 -1 -1 -1 -1 -1 -1 -1
dir -1 -1 -1 -1 -1 -1 -1 -1 -1 -1 -1 -1 -1 -1 -1 -1 -1 -1 -1
dir -1 -1 -1 -1 -1 -1 -1 -1 -1 -1 -1 -1 -1 -1 -1 -1 -1 -1 -1
turn 4 5 6 7 0 1 2 3
kind a
prog go0 take go1 take lose0 lose1 lose2 lose3
prog go2 take lose0 lose1 lose2 lose3
prog go3 lose0 lose1 lose2 lose3
` + more + `kind b
kind c
kind d
kind e
kind f
prog go0
rights 4
blocked loss
endless draw
`)
	if e != api.OK {
		t.Fatal(e)
	}
	return g
}

// oneMore is a program by which a man can come from one more position to the cell 16.
const oneMore = "prog go1\n"

// The man has come to the cell 16; and then an f, to the cell 18.
const (
	come  = "................A../000000/000000/0/1"
	after = "................A.f/000000/000000/0/0"
)

// checkSize checks that a chain has so many positions, or that there are too many for it, if that is -1.
func checkSize(t *testing.T, g api.Game, s string, n, want int) {
	t.Helper()
	l, e := back.Chain(g, specimen.Parsed(t, g, s), n)
	if want < 0 && (e != api.ErrBig || len(l) > 0) || want >= 0 && (e != api.OK || len(l) != want) {
		t.Errorf("%s, %d moves: %d positions, %v, not %d", s, n, len(l), e, want)
	}
	for i, p := range l {
		if !pos.Valid(g, p) || i > 0 && pos.Compare(l[i-1], p) != -1 {
			t.Fatalf("%s, %d moves: %v", s, n, p)
		}
	}
}

// P9.1: there are up to 4000 positions, and no more.
func TestLimit(t *testing.T) {
	g, more := great(t, ""), great(t, oneMore)
	l, e := back.Back(g, specimen.Parsed(t, g, come))
	if e != api.OK || len(l) != api.MaxNodes {
		t.Errorf("%d positions, %v", len(l), e)
	}
	// Positions that are found several times count once.
	checkSize(t, great(t, "prog go2 take lose0 lose1 lose2 lose3\nprog go3 lose0 lose1 lose2 lose3\nprog slide3\n"), come, 1, api.MaxNodes)
	l, e = back.Back(more, specimen.Parsed(t, g, come))
	if e != api.ErrBig || len(l) != 0 {
		t.Errorf("%d positions, %v", len(l), e)
	}
	// Those that are over do not count.
	more.Clauses = []api.Clause{{If: api.Holds, Kind: 5, N: 15, Then: api.Loss}}
	l, e = back.Back(more, specimen.Parsed(t, g, come))
	if e != api.OK || len(l) != api.MaxNodes+1-6*6*16 {
		t.Errorf("%d positions, %v", len(l), e)
	}
}

// P9.1, P9.5: chains are refused for what is on the way, too, even if nothing is before it.
func TestLimitOfChains(t *testing.T) {
	g, more := great(t, ""), great(t, oneMore)
	for _, c := range []struct {
		g    api.Game
		p    string
		want []int
	}{
		{g, come, []int{1, 4000, 0, 0, 0, 0, 0}},
		{more, come, []int{1, -1, -1, -1, -1, -1, -1}},
		{g, after, []int{1, 1, 4000, 0, 0, 0, 0}},
		{more, after, []int{1, 1, -1, -1, -1, -1, -1}},
	} {
		for n, want := range c.want {
			checkSize(t, c.g, c.p, n, want)
		}
	}
}
