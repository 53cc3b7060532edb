package index_test

import (
	"fmt"
	"math"
	"math/rand/v2"
	"reflect"
	"slices"
	"testing"

	"skewer/api"
	"skewer/index"
	"skewer/specimen"
)

// all calls the functions and returns their results, with each error behind the result to which it belongs.
func all(g api.Game, p api.Pos, m api.Material, i int) []any {
	size, e := index.Size(g, m)
	rank, f := index.Rank(g, p)
	q, h := index.At(g, m, i)
	return []any{size, e, rank, f, q, h, index.Of(g, p), index.Valid(g, m)}
}

// otherMaterial returns a copy of m in which something may be changed, by which it may not be valid any more.
func otherMaterial(pick specimen.Pick, m api.Material) api.Material {
	// What is changed in a position can be changed in a material, too.
	p := specimen.OtherPos(pick, api.Pos{At: m.Men, Hand: m.Hand, Rights: m.Rights, Side: m.Side})
	return api.Material{Men: p.At, Hand: p.Hand, Rights: p.Rights, Side: p.Side}
}

// P1, P2: no game, position, material or number makes a function panic, or is modified, and the results are the same ones each time; with an error, there is nothing else.
func TestAnything(t *testing.T) {
	pick := rand.New(rand.NewPCG(11, 12)).IntN
	right, refused := make([]int, 3), make([]int, 3)
	for g, p := range specimen.Samples(pick, 3000, 3) {
		m, i := index.Of(g, p), pick(10)
		if pick(2) == 0 {
			m, i = otherMaterial(pick, m), specimen.Edges()[pick(len(specimen.Edges()))]
		}
		if pick(2) == 0 {
			p = specimen.OtherPos(pick, p)
		}
		if pick(3) == 0 {
			g = specimen.OtherGame(pick, g)
		}
		before := fmt.Sprint(g, p, m)
		first := all(g, p, m, i)
		if fmt.Sprint(g, p, m) != before {
			t.Fatalf("%v, %v, %v, not %s", g, p, m, before)
		}
		if !reflect.DeepEqual(all(g, p, m, i), first) {
			t.Fatalf("%v, %v, %v, %d: other results", g, p, m, i)
		}
		for n := range right {
			if first[2*n+1] == api.OK {
				right[n]++
				continue
			}
			refused[n]++
			if !reflect.ValueOf(first[2*n]).IsZero() {
				t.Fatalf("%v, %v, %v, %d: %v", g, p, m, i, first)
			}
		}
	}
	if min(slices.Min(right), slices.Min(refused)) < 500 {
		t.Errorf("only %v are right, and %v refused", right, refused)
	}
}

// P1: with games that are not valid, and have very much of everything, or nothing, and with any positions and materials, the functions come to an end.
func TestGreatGames(t *testing.T) {
	great, p := specimen.Great()
	small := specimen.Still(4, 1, false, true)
	q := specimen.Parsed(t, small, "Ab../01/00/1/0")
	far := api.Pos{At: specimen.Edges(), Hand: [2][]int{specimen.Edges(), specimen.Edges()}, Rights: -1, Side: -1}
	games := []api.Game{great, small, {}}
	for _, n := range specimen.Edges() {
		g, h := great, small
		g.Board.Cells, h.Board.Cells = n, n
		bare := api.Game{Board: api.Board{Cells: n}, Rights: n}
		games = append(games, g, h, bare)
	}
	for _, g := range games {
		for _, r := range []api.Pos{p, q, far, {}} {
			for _, i := range []int{0, 1, math.MaxInt} {
				m := index.Of(g, r)
				all(g, r, m, i)
				m.Men = slices.Clone(m.Men)
				m.Men[0] = g.Board.Cells
				clear(m.Men[1:])
				all(g, r, m, i)
				all(g, r, api.Material{Men: specimen.Edges(), Hand: r.Hand}, i)
				all(g, r, api.Material{}, i)
			}
		}
	}
}

// P2: results share no memory with the arguments, nor one part of them with another one.
func TestMemory(t *testing.T) {
	g := specimen.Still(4, 1, true, true)
	p := specimen.Parsed(t, g, "A.b./12/34/1/1")
	p.Hand[1] = p.Hand[0]
	m := index.Of(g, p)
	lists := [][]int{p.At, p.Hand[0], m.Men, m.Hand[0], m.Hand[1]}
	shared := m
	shared.Hand[1] = m.Hand[0]
	for _, n := range []api.Material{m, shared, index.Of(g, p)} {
		for i := range 2 {
			q, e := index.At(g, n, i)
			if e != api.OK {
				t.Fatal(e)
			}
			lists = append(lists, q.At, q.Hand[0], q.Hand[1])
		}
	}
	again := index.Of(g, p)
	for _, l := range [][]int{again.Men, again.Hand[0], again.Hand[1]} {
		// What could be added to a list has to be its own, too.
		lists = append(lists, l[:cap(l)])
	}
	specimen.CheckApart(t, lists)
}
