package slice_test

import (
	"fmt"
	"reflect"
	"slices"
	"testing"

	"skewer/api"
	"skewer/slice"
	"skewer/specimen"
)

// all calls the functions and returns their results.
func all(g api.Game, m api.Measure, l []api.Pos) []any {
	results := []any{slice.Of(g), slice.Valid(g, m), slice.Cut(m, l)}
	for i, p := range l {
		results = append(results, slice.Level(m, p), slice.Leaves(m, p, l[len(l)-1-i]))
	}
	return results
}

// otherMeasure returns a copy of m in which a weight may be another one, missing, or too many.
func otherMeasure(pick specimen.Pick, m api.Measure) api.Measure {
	l, edge := slices.Clone(m.Kinds), specimen.Edges()[pick(len(specimen.Edges()))]
	switch pick(4) {
	case 0:
		l[pick(len(l))] = edge
	case 1:
		return weights(l[1:]...)
	case 2:
		l = append(l, edge)
	}
	return weights(l...)
}

// P1, P2: no game, measure or positions make a function panic, or are modified, and the results are the same ones each time.
func TestAnything(t *testing.T) {
	valid, refused, cut := 0, 0, 0
	for pick, g := range games(t, 3000) {
		m, l := slice.Of(g), positions(pick, g, 5)
		if pick(2) == 0 {
			m = otherMeasure(pick, m)
		}
		if pick(2) == 0 {
			g = specimen.OtherGame(pick, g)
		}
		for i, p := range l {
			if pick(3) == 0 {
				l[i] = specimen.OtherPos(pick, p)
			}
		}
		before := fmt.Sprint(g, m, l)
		first := all(g, m, l)
		if fmt.Sprint(g, m, l) != before {
			t.Fatalf("%v, %v, %v, not %s", g, m, l, before)
		}
		if !reflect.DeepEqual(all(g, m, l), first) {
			t.Fatalf("%v, %v, %v: other results", g, m, l)
		}
		if first[1].(bool) {
			valid++
		} else {
			refused++
		}
		cut += min(1, len(first[2].([][]int))-1)
	}
	if min(valid, refused, cut) < 1000 {
		t.Errorf("only %d are valid, %d refused, and %d lists cut", valid, refused, cut)
	}
}

// P1: with games that are not valid, and have very much of everything, or nothing, and with measures of any numbers, the functions come to an end.
func TestGreatGames(t *testing.T) {
	great, p := specimen.Great()
	small := row(t, "a", "go0 become1", "")
	wrong := small
	wrong.Kinds = nil
	for _, n := range specimen.Edges() {
		wrong.Kinds = append(wrong.Kinds, api.Kind{Progs: []api.Prog{{{Op: api.Become, N: n}, {Op: n, N: n}}}})
	}
	few := wrong
	few.Kinds = slices.Clone(wrong.Kinds[:api.MaxKinds])
	few.Kinds[0].Progs = nil
	for _, k := range wrong.Kinds {
		few.Kinds[0].Progs = append(few.Kinds[0].Progs, k.Progs...)
	}
	q := specimen.Parsed(t, small, "Ab../10/00/1/0")
	far := api.Pos{At: specimen.Edges(), Hand: [2][]int{specimen.Edges(), specimen.Edges()}, Rights: -1, Side: -1}
	for _, g := range []api.Game{great, small, wrong, few, {}} {
		for _, n := range []int{0, 1, 2, api.MaxKinds, len(specimen.Edges()), 300} {
			all(g, weights(slices.Repeat([]int{1}, n)...), []api.Pos{p, q, far, {}})
		}
		all(g, weights(specimen.Edges()...), []api.Pos{p, q, far, {}, far})
		all(g, api.Measure{}, nil)
	}
}

// P2: results share no memory with the arguments, nor one part of them with another one.
func TestMemory(t *testing.T) {
	g := row(t, "a", "go0 become1", "go0 become2", "")
	m := weights(3, 2, 1)
	var l []api.Pos
	lists := [][]int{m.Kinds}
	for _, s := range []string{"A.../100/000/1/0", "B.../000/100/1/0", "BBB./000/000/0/0", "c.../000/000/0/1", "bc../000/100/0/1", "C.../000/000/0/0"} {
		p := specimen.Parsed(t, g, s)
		l = append(l, p)
		lists = append(lists, p.At, p.Hand[0], p.Hand[1])
	}
	for range 2 {
		cut := slice.Cut(m, l)
		if len(cut) != 3 {
			t.Fatal(cut)
		}
		for _, part := range append(cut, slice.Of(g).Kinds) {
			// What could be added to a list has to be its own, too.
			lists = append(lists, part[:cap(part)])
		}
	}
	specimen.CheckApart(t, lists)
}
