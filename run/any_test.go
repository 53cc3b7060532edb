package run_test

import (
	"fmt"
	"math/rand/v2"
	"reflect"
	"testing"

	"skewer/api"
	"skewer/run"
	"skewer/specimen"
)

// P1, P2: no game and no position makes a function panic, or is modified, and the results are the same ones each time.
func TestAnything(t *testing.T) {
	r := rand.New(rand.NewPCG(7, 8))
	done := 0
	for x := range samples() {
		x.g = specimen.OtherGame(r.IntN, x.g)
		if r.IntN(3) == 0 {
			x.p = specimen.OtherPos(r.IntN, x.p)
		}
		before := fmt.Sprint(x)
		first := all(x)
		if fmt.Sprint(x) != before {
			t.Fatalf("%v, not %s", x, before)
		}
		if !reflect.DeepEqual(all(x), first) {
			t.Fatalf("%v: other results", x)
		}
		if first[1] == api.OK {
			done++
		}
	}
	if done < 10000 {
		t.Errorf("only %d were not refused", done)
	}
}

// all calls the functions and returns their results.
func all(x sample) []any {
	l, e := run.Runs(x.g, x.p, x.cell, x.i)
	cells, f := run.Reads(x.g, x.p, x.cell, x.i)
	return []any{l, e, cells, f, run.Drops(x.g, x.p)}
}

// P1: a game that is not valid, with very many steps, kinds and cells, comes to an end.
func TestGreatGames(t *testing.T) {
	g, p := specimen.Great()
	for _, cell := range []int{1, 90, 98} {
		for i := range 3 {
			if got := all(sample{g, p, cell, i}); got[1] == api.ErrPos {
				t.Errorf("the man on %d is not tried", cell)
			}
		}
	}
}

// P2: results share no memory with the arguments, nor one part of them with another one.
func TestMemory(t *testing.T) {
	g := row(t, 4, "slide0")
	x := sample{g, specimen.Parsed(t, g, "A.../02/03/0/0"), 0, 0}
	var lists [][]int
	add := func(p api.Pos) { lists = append(lists, p.At, p.Hand[0], p.Hand[1]) }
	add(x.p)
	for _, o := range runs(t, x) {
		add(o.Pos)
	}
	for _, q := range run.Drops(x.g, x.p) {
		add(q)
	}
	lists = append(lists, reads(t, x), reads(t, x))
	if len(lists) != 3+9+9+2 {
		t.Fatal("not all results:", lists)
	}
	specimen.CheckApart(t, lists)
}
