package board

import (
	"iter"
	"slices"

	"skewer/api"
)

// isCell reports whether b has the cell c.
func isCell(b api.Board, c int) bool {
	return c >= 0 && c < min(b.Cells, api.MaxCells)
}

// meant returns the direction that d stands for, for the side, or -1.
func meant(b api.Board, side, d int) int {
	if d < 0 || d >= len(b.Turn) || side != 0 && side != 1 {
		return -1
	}
	if side == 1 {
		return b.Turn[d]
	}
	return d
}

// next returns the cell to which the direction d itself leads from c, or -1.
func next(b api.Board, d, c int) int {
	if d < 0 || d >= len(b.Next) || !isCell(b, c) || c >= len(b.Next[d]) || !isCell(b, b.Next[d][c]) {
		return -1
	}
	return b.Next[d][c]
}

// steps yields the cell to which each direction leads from c, if there is one.
func steps(b api.Board, c int) iter.Seq[int] {
	return func(yield func(int) bool) {
		for d := range b.Next {
			if to := next(b, d, c); to >= 0 && !yield(to) {
				return
			}
		}
	}
}

// walk yields the cells to which the direction d leads from c on, until a step is not there or leads to a cell that was passed.
func walk(b api.Board, d, c int) iter.Seq[int] {
	return func(yield func(int) bool) {
		var passed [api.MaxCells]bool
		for from, to := c, next(b, d, c); to >= 0; from, to = to, next(b, d, to) {
			passed[from] = true
			if passed[to] || !yield(to) {
				return
			}
		}
	}
}

// ahead returns the function that yields the cells to which a step leads from a cell.
func ahead(b api.Board) func(int) iter.Seq[int] {
	return func(c int) iter.Seq[int] { return steps(b, c) }
}

// joined returns the function that yields the cells that a step joins with a cell, forwards or backwards.
func joined(b api.Board) func(int) iter.Seq[int] {
	both := make([][]int, b.Cells)
	for c := range both {
		for to := range steps(b, c) {
			both[c] = append(both[c], to)
			both[to] = append(both[to], c)
		}
	}
	return func(c int) iter.Seq[int] { return slices.Values(both[c]) }
}

// distances returns the least numbers of steps from one cell to each of the cells, or -1, if onward yields the cells to which a step leads from a cell.
func distances(cells, from int, onward func(int) iter.Seq[int]) []int {
	far := slices.Repeat([]int{-1}, cells)
	far[from] = 0
	queue := []int{from}
	for len(queue) > 0 {
		c := queue[0]
		queue = queue[1:]
		for to := range onward(c) {
			if far[to] < 0 {
				far[to] = far[c] + 1
				queue = append(queue, to)
			}
		}
	}
	return far
}
