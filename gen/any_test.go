package gen_test

import (
	"fmt"
	"math/rand/v2"
	"reflect"
	"slices"
	"testing"

	"skewer/api"
	"skewer/gen"
	"skewer/specimen"
)

// all calls the functions and returns their results.
func all(g api.Game, c api.Code, p api.Pos, cell int) []any {
	return []any{gen.Compile(g), gen.Run(g, c, p, cell), gen.Moves(g, c, p), gen.Count(c)}
}

// otherCode returns a copy of c with something changed, by which it may not fit any more.
func otherCode(pick specimen.Pick, c api.Code) api.Code {
	edge := func() int { return specimen.Edges()[pick(len(specimen.Edges()))] }
	var d api.Code
	for side, kinds := range c.Paths {
		for _, cells := range kinds {
			cells = slices.Clone(cells)
			for cell, l := range cells {
				cells[cell] = slices.Clone(l)
				if pick(3) == 0 {
					act := api.Act{Op: api.Empty + pick(8), A: edge(), B: edge()}
					acts := [][]api.Act{nil, {act}, {{Op: edge(), A: pick(3)}}, {{Op: api.Take, A: pick(3)}, act}}[pick(4)]
					cells[cell] = append(cells[cell], api.Path{Acts: acts, To: edge()}, api.Path{Acts: acts, To: pick(3)})
				}
			}
			if pick(4) == 0 {
				cells = cells[:pick(len(cells)+1)]
			}
			d.Paths[side] = append(d.Paths[side], cells)
		}
	}
	if side := pick(8); side < 2 {
		d.Paths[side] = d.Paths[side][:pick(len(d.Paths[side])+1)]
	}
	return d
}

// P1, P2: no game, position or code makes a function panic, or is modified, and the results are the same ones each time.
func TestAnything(t *testing.T) {
	pick := rand.New(rand.NewPCG(11, 12)).IntN
	compiled, taken, moved := 0, 0, 0
	for x, p := range samples() {
		if gen.Count(x.c) > 200 {
			continue
		}
		g, c := x.g, x.c
		switch pick(3) {
		case 0:
			c = otherCode(pick, c)
		case 1:
			c = otherCode(pick, anyCode(pick, g))
		}
		if pick(4) == 0 {
			g = specimen.OtherGame(pick, g)
		}
		if pick(4) == 0 {
			p = specimen.OtherPos(pick, p)
		}
		cell := pick(9) - 1
		if pick(20) == 0 {
			cell = specimen.Edges()[pick(len(specimen.Edges()))]
		}
		before := fmt.Sprint(g, c, p)
		first := all(g, c, p, cell)
		if fmt.Sprint(g, c, p) != before {
			t.Fatalf("%v, %v, %v, not %s", g, c, p, before)
		}
		if !reflect.DeepEqual(all(g, c, p, cell), first) {
			t.Fatalf("%v, %v, %v, %d: other results", g, c, p, cell)
		}
		compiled += min(1, gen.Count(first[0].(api.Code)))
		taken += min(1, len(first[1].([]api.Outcome)))
		moved += min(1, len(first[2].([]api.Pos)))
	}
	if compiled < 10000 || taken < 1000 || moved < 3000 {
		t.Errorf("only %d were compiled, %d men have outcomes, and %d positions moves", compiled, taken, moved)
	}
}

// P1: with a game that is not valid, and has very much of everything, the functions come to an end, with each code.
func TestGreatGames(t *testing.T) {
	g, p := specimen.Great()
	small := row(t, 4, "go0, slide0 take")
	codes := []api.Code{{}, gen.Compile(small), empty(g)}
	for i, n := range specimen.Edges() {
		act := api.Act{Op: api.Empty + i%8, A: n, B: n}
		for _, cell := range []int{1, 90, 98} {
			codes[2].Paths[0][0][cell] = append(codes[2].Paths[0][0][cell], api.Path{Acts: []api.Act{act}, To: n}, api.Path{Acts: []api.Act{act}, To: 1}, api.Path{To: n})
		}
	}
	for _, c := range codes {
		for _, cell := range append([]int{90, 98, 99, 100}, specimen.Edges()...) {
			all(g, c, p, cell)
			all(small, c, p, cell)
			all(small, c, specimen.Parsed(t, small, "Ab.A/00/00/1/0"), cell)
		}
	}
	if l := gen.Run(g, codes[2], p, 90); len(l) == 0 {
		t.Error("the man on 90 is not tried")
	}
}

// P2: results share no memory with the arguments, nor one part of them with another one.
func TestMemory(t *testing.T) {
	g := row(t, 4, "slide0, slide0 empty, go0 go0 friend, slide0 slide1 need0, slide0 take")
	p := specimen.Parsed(t, g, "A..b/02/03/1/0")
	c := gen.Compile(g)
	lists := [][]int{p.At, p.Hand[0], p.Hand[1]}
	add := func(q api.Pos) { lists = append(lists, q.At, q.Hand[0], q.Hand[1]) }
	for range 2 {
		for _, o := range gen.Run(g, c, p, 0) {
			add(o.Pos)
		}
		for _, q := range gen.Moves(g, c, p) {
			add(q)
		}
	}
	if len(lists) != 3*(1+2*(4+4+2)) {
		t.Fatal("not all results:", len(lists))
	}
	specimen.CheckApart(t, lists)
}

// P2: the lists of codes, and what could be added to them, share no memory.
func TestMemoryOfCodes(t *testing.T) {
	g := row(t, 4, "slide0, slide0 empty, go0 go0 friend, slide0 slide1 need0, slide0 go1, become0 go0 go0")
	var paths [][]api.Path
	for _, c := range []api.Code{gen.Compile(g), gen.Compile(g)} {
		for _, kinds := range c.Paths {
			for _, cells := range kinds {
				paths = append(paths, cells...)
			}
		}
	}
	var acts [][]api.Act
	for i, l := range paths {
		for j := range l {
			acts = append(acts, l[j].Acts)
		}
		// Where there is room behind the list, it has to be its own.
		for j := range l[:cap(l)] {
			l[:cap(l)][j].To = i
		}
	}
	for i, l := range acts {
		for j := range l[:cap(l)] {
			l[:cap(l)][j].Op = i
		}
	}
	for i, l := range paths {
		if slices.ContainsFunc(l, func(p api.Path) bool { return p.To != i }) {
			t.Errorf("the paths %d have changed: %v", i, l)
		}
	}
	for i, l := range acts {
		if slices.ContainsFunc(l, func(a api.Act) bool { return a.Op != i }) {
			t.Errorf("the acts %d have changed: %v", i, l)
		}
	}
	if len(acts) < 100 {
		t.Errorf("only %d paths", len(acts))
	}
}
