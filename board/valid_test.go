package board_test

import (
	"iter"
	"math"
	"math/rand/v2"
	"reflect"
	"slices"
	"testing"

	"skewer/api"
	"skewer/board"
)

// boards yields valid boards of many sizes, with directions that are turned to others or to themselves, and with many or few steps. They are the same ones each time.
func boards() iter.Seq[api.Board] {
	return func(yield func(api.Board) bool) {
		r := rand.New(rand.NewPCG(1, 2))
		for range 400 {
			if !yield(anyBoard(r, 1+r.IntN(9), 1+r.IntN(api.MaxDirs))) {
				return
			}
		}
		for range 10 {
			if !yield(anyBoard(r, api.MaxCells, 1+r.IntN(api.MaxDirs))) {
				return
			}
		}
	}
}

// anyBoard returns a board of this size.
func anyBoard(r *rand.Rand, cells, dirs int) api.Board {
	b := api.Board{Cells: cells, Turn: make([]int, dirs)}
	sparse := r.IntN(8)
	for range dirs {
		row := make([]int, cells)
		for c := range row {
			row[c] = r.IntN(cells+1) - 1
			if r.IntN(8) < sparse {
				row[c] = -1
			}
		}
		b.Next = append(b.Next, row)
	}
	order := r.Perm(dirs)
	for i := range order {
		b.Turn[order[i]] = order[i]
	}
	for i := 0; i+1 < dirs; i += 2 {
		if r.IntN(4) > 0 {
			b.Turn[order[i]], b.Turn[order[i+1]] = order[i+1], order[i]
		}
	}
	return b
}

// plain returns a board whose directions lead nowhere, and are turned to themselves.
func plain(cells, dirs int) api.Board {
	b := api.Board{Cells: cells}
	for d := range dirs {
		b.Next = append(b.Next, slices.Repeat([]int{-1}, cells))
		b.Turn = append(b.Turn, d)
	}
	return b
}

// P1.9: boards are valid up to the limits.
func TestValid(t *testing.T) {
	for b := range boards() {
		if !board.Valid(b) {
			t.Fatal(b)
		}
	}
	for _, c := range [][2]int{{1, 1}, {1, 8}, {64, 1}, {64, 8}, {3, 3}} {
		if !board.Valid(plain(c[0], c[1])) {
			t.Error(c)
		}
	}
	edges := plain(3, 2)
	edges.Next[0], edges.Turn = []int{-1, 2, 0}, []int{1, 0}
	if !board.Valid(edges) {
		t.Error(edges)
	}
}

// ring returns a board whose only direction leads around.
func ring(cells int) api.Board {
	b := plain(cells, 1)
	for c := range cells {
		b.Next[0][c] = (c + 1) % cells
	}
	return b
}

// wrong returns boards each of which breaks one condition.
func wrong() map[string]api.Board {
	l := map[string]api.Board{
		"zero value":         {},
		"no cells":           plain(0, 1),
		"65 cells":           plain(65, 1),
		"no directions":      plain(3, 0),
		"9 directions":       plain(3, 9),
		"cells below 0":      {Cells: -1, Next: [][]int{{}}, Turn: []int{0}},
		"very many cells":    {Cells: math.MaxInt, Next: [][]int{{0}}, Turn: []int{0}},
		"very few cells":     {Cells: math.MinInt, Next: [][]int{{0}}, Turn: []int{0}},
		"nothing but cells":  {Cells: 3},
		"rows that are nil":  {Cells: 3, Next: make([][]int, 2), Turn: []int{0, 1}},
		"no turn":            {Cells: 1, Next: [][]int{{0}}},
		"turn without lists": {Cells: 1, Turn: []int{0}},
		"a ring of 70 cells": ring(70),
	}
	for name, change := range map[string]func(*api.Board){
		"a row too long":       func(b *api.Board) { b.Next[2] = append(b.Next[2], 0) },
		"a row too short":      func(b *api.Board) { b.Next[2] = b.Next[2][1:] },
		"a step below -1":      func(b *api.Board) { b.Next[1][2] = -2 },
		"a step too far":       func(b *api.Board) { b.Next[2][0] = 4 },
		"a step very far":      func(b *api.Board) { b.Next[0][3] = math.MaxInt },
		"a cell more":          func(b *api.Board) { b.Cells++ },
		"a cell less":          func(b *api.Board) { b.Cells-- },
		"turn too long":        func(b *api.Board) { b.Turn = append(b.Turn, 3) },
		"turn too short":       func(b *api.Board) { b.Turn = b.Turn[:2] },
		"turn below 0":         func(b *api.Board) { b.Turn[0] = -1 },
		"turn too far":         func(b *api.Board) { b.Turn[2] = 3 },
		"turn very far":        func(b *api.Board) { b.Turn[1] = math.MinInt },
		"turn with one twice":  func(b *api.Board) { b.Turn[1] = 0 },
		"turn that goes round": func(b *api.Board) { b.Turn = []int{1, 2, 0} },
	} {
		b := plain(4, 3)
		change(&b)
		l[name] = b
	}
	return l
}

// P1.9: boards are valid no further than within the limits.
func TestNotValid(t *testing.T) {
	for name, b := range wrong() {
		if board.Valid(b) {
			t.Error(name)
		}
	}
}

// all calls all functions with the numbers of a range and some more, and returns their results.
func all(b api.Board) []any {
	out := []any{board.Valid(b), board.Far(b), board.Parts(b)}
	numbers := []int{math.MinInt, -1, 0, 1, 2, 3, 7, 8, 63, 64, math.MaxInt}
	for _, c := range numbers {
		x, e := board.Without(b, c)
		out = append(out, board.Near(b, c), x, e)
		for side := -1; side <= 2; side++ {
			for _, d := range numbers {
				out = append(out, board.To(b, side, d, c), board.Line(b, side, d, c))
			}
		}
	}
	return out
}

// copied returns a board that shares no memory with b.
func copied(b api.Board) api.Board {
	b.Next, b.Turn = slices.Clone(b.Next), slices.Clone(b.Turn)
	for d, row := range b.Next {
		b.Next[d] = slices.Clone(row)
	}
	return b
}

// P1: no function panics, or goes on for ever, on boards that are not valid.
func TestAnyBoard(t *testing.T) {
	for name, b := range wrong() {
		before := copied(b)
		all(b)
		if !reflect.DeepEqual(b, before) {
			t.Error("modified:", name)
		}
	}
}

// P2: results depend on the arguments alone, which are not modified.
func TestArguments(t *testing.T) {
	for b := range boards() {
		before := copied(b)
		first := all(b)
		if !reflect.DeepEqual(b, before) {
			t.Fatal("modified:", before)
		}
		if !reflect.DeepEqual(all(before), first) {
			t.Fatal("other results:", b)
		}
	}
}

// P2: a result is memory of its own: what is done with it changes neither the argument nor another result.
func TestMemory(t *testing.T) {
	b := grid(t, 3, 2)
	before := copied(b)
	x, _ := board.Without(b, 2)
	far := board.Far(b)
	wreck(x.Next[0])
	wreck(x.Turn)
	wreck(far[0])
	wreck(board.Line(b, 0, 2, 0))
	wreck(board.Near(b, 4))
	wreck(board.Parts(b))
	if !reflect.DeepEqual(b, before) || far[1][1] != 0 || x.Next[1][0] != before.Next[1][0] {
		t.Error("shared memory")
	}
	if again := grid(t, 3, 2); !reflect.DeepEqual(again, before) {
		t.Error("another grid:", again)
	}
}

// wreck overwrites a list, also behind its end.
func wreck(l []int) {
	l = l[:cap(l)]
	for i := range l {
		l[i] = 99
	}
}
