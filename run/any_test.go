package run_test

import (
	"fmt"
	"math/rand/v2"
	"reflect"
	"slices"
	"testing"

	"skewer/api"
	"skewer/run"
)

// P1, P2: no game and no position makes a function panic, or is modified, and the results are the same ones each time.
func TestAnything(t *testing.T) {
	r := rand.New(rand.NewPCG(7, 8))
	done := 0
	for x := range samples() {
		x.g = otherGame(r, x.g)
		if r.IntN(3) == 0 {
			x.p = otherPos(r, x.p)
		}
		before := fmt.Sprint(x)
		first := all(x)
		if fmt.Sprint(x) != before {
			t.Fatalf("%v, not %s", x, before)
		}
		if !reflect.DeepEqual(all(x), first) {
			t.Fatalf("%v: other results", x)
		}
		if first[1] == api.OK {
			done++
		}
	}
	if done < 10000 {
		t.Errorf("only %d were not refused", done)
	}
}

// all calls the functions and returns their results.
func all(x sample) []any {
	l, e := run.Runs(x.g, x.p, x.cell, x.i)
	cells, f := run.Reads(x.g, x.p, x.cell, x.i)
	return []any{l, e, cells, f, run.Drops(x.g, x.p)}
}

// otherGame returns g with something changed, by which it may not be valid any more.
func otherGame(r *rand.Rand, g api.Game) api.Game {
	n := edges[r.IntN(len(edges))]
	switch r.IntN(8) {
	case 0:
		g.Rights = n
	case 1:
		g.Board.Turn = otherList(r, g.Board.Turn)
	case 2:
		g.Board.Next = slices.Clone(g.Board.Next)
		d := r.IntN(len(g.Board.Next))
		g.Board.Next[d] = otherList(r, g.Board.Next[d])
	case 3:
		g.Board.Next = nil
	case 4:
		return g
	default:
		g.Kinds = slices.Clone(g.Kinds)
		for i, k := range g.Kinds {
			g.Kinds[i].Progs = slices.Clone(k.Progs)
			for j := range k.Progs {
				g.Kinds[i].Progs[j] = otherProg(r, k.Progs[j])
			}
		}
	}
	return g
}

// otherProg returns steps that need not be a program.
func otherProg(r *rand.Rand, p api.Prog) api.Prog {
	p = slices.Clone(p)
	number := edges[r.IntN(len(edges))]
	switch r.IntN(4) {
	case 0:
		p[r.IntN(len(p))].Op = number
	case 1:
		p[r.IntN(len(p))].N = number
	case 2:
		return nil
	default:
		p = slices.Repeat(p, 1+r.IntN(3))
	}
	return p
}

// otherList returns l with an element changed, left out or added.
func otherList(r *rand.Rand, l []int) []int {
	l = slices.Clone(l)
	switch r.IntN(3) {
	case 0:
		l[r.IntN(len(l))] = edges[r.IntN(len(edges))]
	case 1:
		return l[1:]
	default:
		l = append(l, edges[r.IntN(len(edges))])
	}
	return l
}

// otherPos returns p with something changed, by which it may not be valid any more.
func otherPos(r *rand.Rand, p api.Pos) api.Pos {
	p = copied(p)
	switch r.IntN(5) {
	case 0:
		p.At = otherList(r, p.At)
	case 1:
		p.Hand[0] = otherList(r, p.Hand[0])
	case 2:
		p.Hand[1] = otherList(r, p.Hand[1])
	case 3:
		p.Rights = edges[r.IntN(len(edges))]
	case 4:
		p.Side = edges[r.IntN(len(edges))]
	}
	return p
}

// P1: a game that is not valid, with very many steps, kinds and cells, comes to an end.
func TestGreatGames(t *testing.T) {
	steps := slices.Repeat(api.Prog{{Op: api.Slide, N: 0}, {Op: api.Push, N: 1}, {Op: api.Slide, N: 1}}, 200)
	kind := api.Kind{Name: "a", Keep: true, Progs: []api.Prog{steps, steps[:8], {{Op: api.Take}}}}
	g := api.Game{Kinds: slices.Repeat([]api.Kind{kind}, 300), Rights: 60}
	const cells = 100
	g.Board = api.Board{Cells: cells, Next: make([][]int, 2), Turn: []int{1, 0}}
	for c := range cells {
		g.Board.Next[0] = append(g.Board.Next[0], (c+1)%cells)
		g.Board.Next[1] = append(g.Board.Next[1], (c+7)%cells)
	}
	p := api.Pos{At: make([]int, cells), Hand: [2][]int{make([]int, 300), make([]int, 300)}}
	for c := 0; c < cells; c += 2 {
		p.At[c] = c * 6
	}
	p.Hand[0][299], p.Hand[0][0] = 1, 1
	p.At[90], p.At[1] = 1, 1
	for _, cell := range []int{1, 90, 98} {
		for i := range 3 {
			if got := all(sample{g, p, cell, i}); got[1] == api.ErrPos {
				t.Errorf("the man on %d is not tried", cell)
			}
		}
	}
}

// P2: results share no memory with the arguments, nor one part of them with another one.
func TestMemory(t *testing.T) {
	g := row(t, 4, "slide0")
	x := sample{g, parsed(t, g, "A.../02/03/0/0"), 0, 0}
	var lists [][]int
	add := func(p api.Pos) { lists = append(lists, p.At, p.Hand[0], p.Hand[1]) }
	add(x.p)
	for _, o := range runs(t, x) {
		add(o.Pos)
	}
	for _, q := range run.Drops(x.g, x.p) {
		add(q)
	}
	lists = append(lists, reads(t, x), reads(t, x))
	if len(lists) != 3+9+9+2 {
		t.Fatal("not all results:", lists)
	}
	for n, l := range lists {
		for i := range l {
			l[i] = n
		}
	}
	for n, l := range lists {
		if !slices.Equal(l, slices.Repeat([]int{n}, len(l))) {
			t.Errorf("the list %d has changed: %v", n, l)
		}
	}
}
