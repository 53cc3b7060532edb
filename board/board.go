// Package board is layer 1: boards as graphs with directions. See shared/doc/01-board.md.
//
// What is said of the functions holds for boards that are valid. For others they give some result, too: every index is checked before it is used.
package board

import (
	"slices"

	"skewer/api"
)

// rays has the differences of columns and rows to which the directions of a grid lead.
var rays = [...][2]int{{0, -1}, {1, -1}, {1, 0}, {1, 1}, {0, 1}, {-1, 1}, {-1, 0}, {-1, -1}}

// Valid reports whether b is within the limits, and each direction is turned back by Turn.
func Valid(b api.Board) bool {
	if b.Cells < 1 || b.Cells > api.MaxCells || len(b.Next) < 1 || len(b.Next) > api.MaxDirs {
		return false
	}
	for _, row := range b.Next {
		outside := func(c int) bool { return c < -1 || c >= b.Cells }
		if len(row) != b.Cells || slices.ContainsFunc(row, outside) {
			return false
		}
	}
	return validTurn(b.Turn, len(b.Next))
}

// validTurn reports whether turn has one of the directions for each of them, and leads back from there.
func validTurn(turn []int, dirs int) bool {
	if len(turn) != dirs {
		return false
	}
	for d, to := range turn {
		if to < 0 || to >= dirs || turn[to] != d {
			return false
		}
	}
	return true
}

// To returns the cell to which the direction that d stands for, for the side, leads from c, or -1.
func To(b api.Board, side, d, c int) int {
	return next(b, meant(b, side, d), c)
}

// Line returns the cells to which one comes from c by steps in one direction, up to the first one that was there before.
func Line(b api.Board, side, d, c int) []int {
	return slices.Collect(walk(b, meant(b, side, d), c))
}

// Near returns the other cells to which a step leads from c, in increasing order.
func Near(b api.Board, c int) []int {
	var near []int
	for to := range steps(b, c) {
		if to != c {
			near = append(near, to)
		}
	}
	slices.Sort(near)
	return slices.Compact(near)
}

// Far returns the least numbers of steps from each cell to each cell, or -1.
func Far(b api.Board) [][]int {
	if !Valid(b) {
		return nil
	}
	far := make([][]int, b.Cells)
	for c := range far {
		far[c] = distances(b.Cells, c, ahead(b))
	}
	return far
}

// Parts returns for each cell the least cell that is linked with it.
func Parts(b api.Board) []int {
	if !Valid(b) {
		return nil
	}
	parts := slices.Repeat([]int{-1}, b.Cells)
	both := joined(b)
	for c := range parts {
		if parts[c] >= 0 {
			continue
		}
		// The cells before c are in parts of their own, so that c is the least one of its part.
		for to, n := range distances(b.Cells, c, both) {
			if n >= 0 {
				parts[to] = c
			}
		}
	}
	return parts
}

// Grid returns the board of w columns and h rows, with steps to the eight neighbors of a cell.
func Grid(w, h int) (api.Board, api.Errno) {
	// The division keeps the product of large numbers from wrapping around.
	if w < 1 || h < 1 || w > api.MaxCells/h {
		return api.Board{}, api.ErrArg
	}
	b := api.Board{Cells: w * h}
	for d, ray := range rays {
		row := make([]int, b.Cells)
		for c := range row {
			row[c] = cellAt(w, h, c%w+ray[0], c/w+ray[1])
		}
		b.Next = append(b.Next, row)
		b.Turn = append(b.Turn, (d+len(rays)/2)%len(rays))
	}
	return b, api.OK
}

// cellAt returns the cell in the column x and the row y of a grid, or -1.
func cellAt(w, h, x, y int) int {
	if x < 0 || x >= w || y < 0 || y >= h {
		return -1
	}
	return y*w + x
}

// Without returns b without the steps that lead to c or from it.
func Without(b api.Board, c int) (api.Board, api.Errno) {
	if !isCell(b, c) {
		return api.Board{}, api.ErrArg
	}
	out := api.Board{Cells: b.Cells, Turn: slices.Clone(b.Turn)}
	for _, row := range b.Next {
		row = slices.Clone(row)
		for from, to := range row {
			if from == c || to == c {
				row[from] = -1
			}
		}
		out.Next = append(out.Next, row)
	}
	return out, api.OK
}
