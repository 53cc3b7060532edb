package attack_test

import (
	"fmt"
	"math/rand/v2"
	"reflect"
	"slices"
	"testing"

	"skewer/api"
	"skewer/attack"
	"skewer/specimen"
)

// all calls the functions and returns their results.
func all(g api.Game, a api.Attack, q api.Pos, cell, side int) []any {
	return []any{attack.Make(g, q), attack.Stale(g, a, q), attack.Update(g, a, q), attack.On(a, cell, side)}
}

// otherAttack returns a copy of a with something changed, by which it may not be right any more.
func otherAttack(pick specimen.Pick, a api.Attack) api.Attack {
	edge := func() int { return specimen.Edges()[pick(len(specimen.Edges()))] }
	a.Men = slices.Clone(a.Men)
	for i, l := range a.Men {
		switch pick(8) {
		case 0:
			a.Men[i].Cell = edge()
		case 1:
			a.Men[i].Reads = append(slices.Clone(l.Reads), edge())
		case 2:
			a.Men[i].Takes = append(slices.Clone(l.Takes), edge())
		case 3:
			a.Men[i] = api.Lines{}
		}
	}
	switch pick(4) {
	case 0:
		slices.Reverse(a.Men)
	case 1:
		a.Men = append(a.Men, a.Men...)
	case 2:
		a.Pos = specimen.OtherPos(pick, a.Pos)
	}
	return a
}

// P1, P2: no game, position, attack or number makes a function panic, or is modified, and the results are the same ones each time.
func TestAnything(t *testing.T) {
	pick := rand.New(rand.NewPCG(13, 14)).IntN
	made, counted := 0, 0
	for g, p := range samples() {
		a, q := attack.Make(g, p), changed(pick, g, p)
		if pick(3) == 0 {
			g = specimen.OtherGame(pick, g)
		}
		if pick(3) == 0 {
			q = specimen.OtherPos(pick, q)
		}
		if pick(3) == 0 {
			a = otherAttack(pick, a)
		}
		cell, side := pick(9)-1, pick(4)-1
		if pick(20) == 0 {
			cell, side = specimen.Edges()[pick(len(specimen.Edges()))], specimen.Edges()[pick(len(specimen.Edges()))]
		}
		before := fmt.Sprint(g, a, q)
		first := all(g, a, q, cell, side)
		if fmt.Sprint(g, a, q) != before {
			t.Fatalf("%v, %v, %v, not %s", g, a, q, before)
		}
		if !reflect.DeepEqual(all(g, a, q, cell, side), first) {
			t.Fatalf("%v, %v, %v: other results", g, a, q)
		}
		made += min(1, len(first[0].(api.Attack).Men))
		counted += min(1, first[3].(int))
	}
	if made < 4000 || counted < 50 {
		t.Errorf("only %d have men, and %d counts are not 0", made, counted)
	}
}

// P1: with a game that is not valid, and has very much of everything, the functions come to an end, with each attack.
func TestGreatGames(t *testing.T) {
	g, p := specimen.Great()
	small := specimen.Row(t, 4, "kind a\nprog slide0 take\nkind b\n", "")
	q := specimen.Parsed(t, small, "Ab.A/00/00/1/0")
	wrong := api.Attack{Pos: p}
	for _, n := range specimen.Edges() {
		wrong.Men = append(wrong.Men, api.Lines{Cell: n, Reads: specimen.Edges(), Takes: specimen.Edges()})
	}
	for _, h := range []api.Game{g, small, {}} {
		for _, r := range []api.Pos{p, q, {}} {
			for _, a := range []api.Attack{attack.Make(g, p), attack.Make(small, q), wrong, {}} {
				for _, n := range specimen.Edges() {
					attack.On(a, n, 0)
					attack.On(a, 1, n)
				}
				all(h, a, r, 1, 0)
			}
		}
	}
	if a := attack.Make(g, p); len(a.Men) == 0 {
		t.Error("no man is tried")
	}
}

// P2: results share no memory with the arguments, nor one part of them with another one.
func TestMemory(t *testing.T) {
	g := specimen.Row(t, 5, "kind a\nprog slide0 take\nprog go1 empty\nkind b keep\n", "")
	p, q := specimen.Parsed(t, g, "A.aAa/02/03/1/0"), specimen.Parsed(t, g, "A.a.a/02/03/1/1")
	var lists [][]int
	addPos := func(p api.Pos) { lists = append(lists, p.At, p.Hand[0], p.Hand[1]) }
	add := func(a api.Attack) {
		addPos(a.Pos)
		for _, l := range a.Men {
			// What could be added to a list has to be its own, too.
			lists = append(lists, l.Reads[:cap(l.Reads)], l.Takes[:cap(l.Takes)])
		}
	}
	addPos(p)
	addPos(q)
	first := attack.Make(g, p)
	add(first)
	for range 2 {
		add(attack.Update(g, first, q))
		lists = append(lists, attack.Stale(g, first, q))
	}
	add(attack.Update(g, first, p))
	if len(lists) != 3*6+2*(4+3+3+4)+2 {
		t.Fatal("not all results:", len(lists))
	}
	specimen.CheckApart(t, lists)
}
