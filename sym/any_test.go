package sym_test

import (
	"fmt"
	"math/rand/v2"
	"reflect"
	"slices"
	"testing"

	"skewer/api"
	"skewer/specimen"
	"skewer/sym"
)

// all calls the functions and returns their results.
func all(g api.Game, a, b api.Sym, l []api.Sym, p api.Pos) []any {
	least, i := sym.Canon(l, p)
	return []any{sym.Valid(g, a), sym.Find(g), sym.Apply(a, p), sym.Compose(a, b), sym.Inverse(a), least, i}
}

// otherSym returns a copy of s in which numbers may be others, missing or too many.
func otherSym(pick specimen.Pick, s api.Sym) api.Sym {
	other := func(l []int) []int {
		l = slices.Clone(l)
		edge := specimen.Edges()[pick(len(specimen.Edges()))]
		switch pick(5) {
		case 0:
			l[pick(len(l))] = edge
		case 1:
			return l[1:]
		case 2:
			l = append(l, edge)
		case 3:
			return append(l, len(l))
		}
		return l
	}
	return symOf(other(s.Cells), other(s.Dirs))
}

// P1, P2: no game, position or symmetries make a function panic, or are modified, and the results are the same ones each time.
func TestAnything(t *testing.T) {
	valid, found, moved := 0, 0, 0
	for pick, g := range games(3000) {
		l := sym.Find(g)
		a, b, p := l[pick(len(l))], l[pick(len(l))], specimen.Pos(pick, g)
		if pick(2) == 0 {
			g = specimen.OtherGame(pick, g)
		}
		if pick(3) == 0 {
			p = specimen.OtherPos(pick, p)
		}
		if pick(3) == 0 {
			a, b = otherSym(pick, a), otherSym(pick, b)
			l = append(slices.Clone(l), a, b)
		}
		before := fmt.Sprint(g, a, b, l, p)
		first := all(g, a, b, l, p)
		if fmt.Sprint(g, a, b, l, p) != before {
			t.Fatalf("%v, %v, %v, %v, %v, not %s", g, a, b, l, p, before)
		}
		if !reflect.DeepEqual(all(g, a, b, l, p), first) {
			t.Fatalf("%v, %v, %v, %v, %v: other results", g, a, b, l, p)
		}
		if first[0].(bool) {
			valid++
		}
		found += min(1, len(first[1].([]api.Sym)))
		moved += min(1, len(first[2].(api.Pos).At))
	}
	if min(valid, found, moved) < 1000 {
		t.Errorf("only %d are valid, %d have symmetries, and %d images", valid, found, moved)
	}
}

// P1: with a game that is not valid, and has very much of everything, or nothing, the functions come to an end.
func TestGreatGames(t *testing.T) {
	g, p := specimen.Great()
	small := specimen.Row(t, 3, "kind a\nprog go0\nprog go1\n", "")
	wide, deep, none := small, small, small
	wide.Board.Next, wide.Board.Turn = slices.Repeat(small.Board.Next, 100), slices.Repeat([]int{0}, 200)
	deep.Board.Cells = 1 << 40
	none.Board.Next, none.Board.Turn = nil, nil
	var a, big api.Sym
	for i := range 100 {
		big.Cells, big.Dirs = append(big.Cells, 99-i), append(big.Dirs, i)
	}
	a = symOf([]int{2, 1, 0}, []int{1, 0})
	for _, h := range []api.Game{g, wide, deep, none, small, {}} {
		for _, q := range []api.Pos{p, specimen.Parsed(t, small, "Aa./0/0/0/0"), {}} {
			for _, s := range []api.Sym{a, big, symOf(specimen.Edges(), specimen.Edges()), {}} {
				for _, r := range []api.Sym{a, big, {}} {
					all(h, s, r, []api.Sym{s, r, {}}, q)
				}
			}
		}
	}
}

// P11.1: as many symmetries as there may be are found; if there are more, the search comes to an end.
func TestMost(t *testing.T) {
	g := gameOn(t, slices.Concat(ring(0, 4), ring(4, 5), ring(9, 8), ring(17, 25)))
	checkCount(t, "four rings", g, api.MaxNodes)
	tree := []int{-1}
	for c := 1; c < 63; c++ {
		tree = append(tree, (c-1)/2)
	}
	for _, next := range [][]int{slices.Repeat([]int{-1}, 64), slices.Repeat([]int{0}, 64), slices.Repeat([]int{63}, 64), tree} {
		for _, dirs := range []int{1, 2, 8} {
			sym.Find(gameOn(t, slices.Repeat([][]int{next}, dirs)...))
		}
	}
}

// P11.1, P11.5: where all permutations of the directions come into question, the search comes to an end; and those are found by which the directions around a ring go to each other.
func TestManyDirs(t *testing.T) {
	r := rand.New(rand.NewPCG(5, 6))
	var next [][]int
	for range api.MaxDirs {
		next = append(next, r.Perm(api.MaxCells))
	}
	checkCount(t, "any steps", gameOn(t, next...), 1)
	for d := range next {
		next[d] = nil
		for c := range 9 {
			next[d] = append(next[d], (c+1+d)%9)
		}
	}
	// A cell goes to any one, and the steps by 1 to those by any number that has no divisor in common with 9.
	checkCount(t, "a ring", gameOn(t, next...), 9*6)
}

// P11.1, P11.5: the search comes to an end where parts of the board are alike at first sight: 15 chains that lead to the first cell, and differ in the directions at their other ends.
func TestAlike(t *testing.T) {
	next := make([][]int, api.MaxDirs)
	for d := range next {
		next[d] = slices.Repeat([]int{-1}, 61)
	}
	for n := range 15 {
		head := 1 + n
		next[0][head], next[0][head+15] = 0, head
		next[1+n%7][head+30], next[1+n/7][head+45] = head+15, head+30
	}
	checkCount(t, "chains", with(t, gameOn(t, next...), "go0 go1 go2 go3 go4 go5 go6 go7"), 1)
}

// P11.1, P11.5: the search comes to an end where six cells can go to each other in 720 ways before it is seen that the others cannot go anywhere: in the first direction of each two, these are a ring, and in the second one, two rings.
func TestParts(t *testing.T) {
	r := rand.New(rand.NewPCG(9, 10))
	dead := slices.Repeat([]int{-1}, 6)
	var next [][]int
	for range api.MaxDirs / 2 {
		to := r.Perm(6)
		for i, c := range to {
			to[i] = 6 + c
		}
		one, two := slices.Concat(dead, ring(6, 6)), slices.Concat(dead, ring(6, 3), ring(9, 3))
		next = append(next, renumbered(slices.Concat([]int{0, 1, 2, 3, 4, 5}, to), [][]int{one, two})...)
	}
	checkCount(t, "six cells without steps", gameOn(t, next...), 720)
}

// P2: results share no memory with the arguments, nor one part of them with another one.
func TestMemory(t *testing.T) {
	// The last two cells can be exchanged, and the first two with both directions.
	g := mustBe(t, api.Game{Board: api.Board{Cells: 5, Next: [][]int{{1, -1, 2, -1, -1}, {-1, 0, 2, -1, -1}}, Turn: []int{1, 0}}, Kinds: []api.Kind{{Name: "a", Keep: true}}, Blocked: api.Loss, Endless: api.Draw})
	p := specimen.Parsed(t, g, "Aa.Aa/1/2/0/1")
	lists := append(slices.Clone(g.Board.Next), g.Board.Turn, p.At, p.Hand[0], p.Hand[1])
	add := func(s api.Sym) {
		// What could be added to a list has to be its own, too.
		lists = append(lists, s.Cells[:cap(s.Cells)], s.Dirs[:cap(s.Dirs)])
	}
	addPos := func(q api.Pos) { lists = append(lists, q.At, q.Hand[0], q.Hand[1]) }
	found := sym.Find(g)
	for _, s := range append(slices.Clone(found), sym.Find(g)...) {
		add(s)
		add(sym.Inverse(s))
		add(sym.Compose(s, found[0]))
		add(sym.Compose(found[0], s))
		addPos(sym.Apply(s, p))
		least, i := sym.Canon([]api.Sym{s}, p)
		if i != 0 {
			t.Fatal(i)
		}
		addPos(least)
	}
	least, _ := sym.Canon(nil, p)
	addPos(least)
	if len(lists) != 6+8*(8+6)+3 {
		t.Fatal("not all results:", len(lists))
	}
	specimen.CheckApart(t, lists)
}
