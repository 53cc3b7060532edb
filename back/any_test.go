package back_test

import (
	"fmt"
	"math/rand/v2"
	"reflect"
	"testing"

	"skewer/api"
	"skewer/back"
	"skewer/board"
	"skewer/specimen"
)

// all calls the functions and returns their results.
func all(g api.Game, p api.Pos, n int) []any {
	l, e := back.Back(g, p)
	m, e1 := back.Chain(g, p, n)
	return []any{e, l, e1, m}
}

// P1, P2: no game, position or number makes a function panic, or is modified, and the results are the same ones each time; with an error, there are no positions.
func TestAnything(t *testing.T) {
	pick := rand.New(rand.NewPCG(9, 10)).IntN
	found, refused := 0, 0
	for g, p := range samples(600) {
		if pick(3) == 0 {
			g = specimen.OtherGame(pick, g)
		}
		if pick(3) == 0 {
			p = specimen.OtherPos(pick, p)
		}
		n := pick(4) - 1
		if pick(20) == 0 {
			n = specimen.Edges()[pick(len(specimen.Edges()))]
		}
		before := fmt.Sprint(g, p)
		first := all(g, p, n)
		if fmt.Sprint(g, p) != before {
			t.Fatalf("%v, %v, not %s", g, p, before)
		}
		if !reflect.DeepEqual(all(g, p, n), first) {
			t.Fatalf("%v, %v, %d: other results", g, p, n)
		}
		for i := 0; i < len(first); i += 2 {
			l := first[i+1].([]api.Pos)
			if first[i] != api.OK && len(l) > 0 {
				t.Fatalf("%v, %v, %d: the error %v with %v", g, p, n, first[i], l)
			}
			found += min(1, len(l))
			if first[i] != api.OK {
				refused++
			}
		}
	}
	if found < 3000 || refused < 1000 {
		t.Errorf("only %d have positions, and %d are refused", found, refused)
	}
}

// P1: with a game that is not valid, and has very much of everything, the functions come to an end; with one that has too many paths, too.
func TestGreatGames(t *testing.T) {
	g, p := specimen.Great()
	small := specimen.Row(t, 4, keepers, "")
	b, e := board.Grid(8, 8)
	if e != api.OK {
		t.Fatal(e)
	}
	slides := api.Prog{}
	for d := range b.Next {
		slides = append(slides, api.Step{Op: api.Slide, N: d})
	}
	wide := api.Game{Board: b, Kinds: []api.Kind{{Name: "a", Keep: true, Progs: []api.Prog{slides}}}, Blocked: api.Loss, Endless: api.Draw}
	q := api.Pos{At: make([]int, b.Cells), Hand: [2][]int{{0}, {0}}}
	q.At[3], q.At[12], q.At[63] = 1, 2, 2
	for _, n := range []int{0, 1, 2, api.MaxDepth} {
		for _, h := range []api.Game{g, small, wide} {
			for _, r := range []api.Pos{p, specimen.Parsed(t, small, "Ab.A/00/00/1/0"), q, {}} {
				all(h, r, n)
			}
		}
	}
}

// P2: results share no memory with the arguments, nor one part of them with another one.
func TestMemory(t *testing.T) {
	g := specimen.Row(t, 4, keepers+"prog go0 push0\nprog slide0 take lose0\n", "")
	p := specimen.Parsed(t, g, "..B./03/02/0/1")
	lists := [][]int{p.At, p.Hand[0], p.Hand[1]}
	for range 2 {
		for n := range 3 {
			l, e := back.Chain(g, p, n)
			if e != api.OK || len(l) != []int{1, 9, 26}[n] {
				t.Fatalf("%d moves: %s, %v", n, specimen.Texts(g, l), e)
			}
			for _, q := range l {
				lists = append(lists, q.At, q.Hand[0], q.Hand[1])
			}
		}
	}
	specimen.CheckApart(t, lists)
}
