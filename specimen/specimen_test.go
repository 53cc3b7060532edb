package specimen_test

import (
	"fmt"
	"math/rand/v2"
	"slices"
	"testing"

	"skewer/api"
	"skewer/game"
	"skewer/pos"
	"skewer/specimen"
)

// Games, programs, clauses and positions are valid, and they are the same ones for the same numbers.
func TestValid(t *testing.T) {
	made := func(n uint64) string {
		pick := rand.New(rand.NewPCG(n, 0)).IntN
		g := specimen.Game(pick)
		p := specimen.Pos(pick, g)
		g.Kinds[0].Progs = append(g.Kinds[0].Progs, specimen.Prog(pick, g))
		g.Clauses = append(g.Clauses, specimen.Clause(pick, g))
		if !game.Valid(g) || !pos.Valid(g, p) {
			t.Fatalf("%v, %v", g, p)
		}
		return fmt.Sprint(g, p)
	}
	for n := range uint64(3000) {
		if made(n) != made(n) {
			t.Fatal("two specimens for", n)
		}
	}
}

// What is made of others is made of copies, and is often not valid, but not always.
func TestOther(t *testing.T) {
	pick := rand.New(rand.NewPCG(1, 2)).IntN
	games, positions := 0, 0
	const all = 3000
	for range all {
		g := specimen.Game(pick)
		p := specimen.Pos(pick, g)
		before := fmt.Sprint(g, p)
		if game.Valid(specimen.OtherGame(pick, g)) {
			games++
		}
		if pos.Valid(g, specimen.OtherPos(pick, p)) {
			positions++
		}
		if fmt.Sprint(g, p) != before {
			t.Fatalf("%v, %v, not %s", g, p, before)
		}
	}
	for _, n := range []int{games, positions} {
		if n == 0 || n > all/2 {
			t.Errorf("%d of %d are valid", n, all)
		}
	}
}

// A copy is equal, and shares no memory.
func TestCopied(t *testing.T) {
	pick := rand.New(rand.NewPCG(3, 4)).IntN
	for range 100 {
		p := specimen.Pos(pick, specimen.Game(pick))
		q := specimen.Copied(p)
		if pos.Compare(p, q) != 0 {
			t.Fatalf("%v, not %v", q, p)
		}
		text := fmt.Sprint(p)
		for _, l := range [][]int{q.At, q.Hand[0], q.Hand[1]} {
			copy(l, slices.Repeat([]int{99}, len(l)))
		}
		if fmt.Sprint(p) != text {
			t.Fatalf("%v, not %s", p, text)
		}
	}
}

// A row has its steps, kinds, clauses and results; without cells, or with kinds or clauses that are wrong, there is none.
func TestRow(t *testing.T) {
	const kinds, clauses = "kind a\nprog go0 empty\n", "must\nfew 1 draw\n"
	for cells := range 66 {
		g, e := specimen.Row(cells, kinds, clauses)
		if cells == 0 || cells > api.MaxCells {
			if e == api.OK {
				t.Errorf("%d cells: %v", cells, g)
			}
			continue
		}
		if e != api.OK || g.Board.Cells != cells || len(g.Kinds) != 1 || g.Rights != 1 || !g.Must || len(g.Clauses) != 1 || g.Blocked != api.Loss || g.Endless != api.Draw {
			t.Fatalf("%d cells: %v, %v", cells, g, e)
		}
		for c := range cells {
			to := c + 1
			if to == cells {
				to = -1
			}
			if g.Board.Next[0][c] != to || g.Board.Next[1][c] != c-1 {
				t.Errorf("%d cells: %v", cells, g.Board)
			}
		}
	}
	for _, c := range [][2]string{{"", clauses}, {"kind A\n", clauses}, {kinds, "few 65 draw\n"}, {kinds, "must"}} {
		if g, e := specimen.Row(3, c[0], c[1]); e == api.OK {
			t.Errorf("%q: %v", c, g)
		}
	}
}
