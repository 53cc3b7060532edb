package board_test

import (
	"math"
	"slices"
	"testing"

	"skewer/api"
	"skewer/board"
)

// grid returns a grid that has to be there.
func grid(t *testing.T, w, h int) api.Board {
	t.Helper()
	b, e := board.Grid(w, h)
	if e != api.OK {
		t.Fatalf("Grid of %d, %d: %v", w, h, e)
	}
	return b
}

// P1.1: the example of the chapter.
func TestExample(t *testing.T) {
	b := grid(t, 3, 2)
	if got := board.To(b, 0, 0, 4); got != 1 {
		t.Error("To for the side 0:", got)
	}
	if got := board.To(b, 1, 0, 4); got != -1 {
		t.Error("To for the side 1:", got)
	}
	if got := board.Near(b, 4); !slices.Equal(got, []int{0, 1, 2, 3, 5}) {
		t.Error("Near:", got)
	}
	for _, c := range []int{1, 4} {
		var e api.Errno
		if b, e = board.Without(b, c); e != api.OK {
			t.Fatal("Without:", e)
		}
	}
	if got := board.Parts(b); !slices.Equal(got, []int{0, 1, 2, 0, 4, 2}) {
		t.Error("Parts:", got)
	}
}

// P1.1, P1.2: numbers that are not in their range lead nowhere.
func TestNumbers(t *testing.T) {
	b := grid(t, 3, 3)
	for _, far := range []int{math.MinInt, -2, -1, 9, 64, 65, math.MaxInt} {
		for _, c := range [][3]int{{far, 0, 4}, {0, far, 4}, {1, far, 4}, {0, 0, far}, {1, 0, far}} {
			if to := board.To(b, c[0], c[1], c[2]); to != -1 {
				t.Errorf("To of %v: %d", c, to)
			}
			if l := board.Line(b, c[0], c[1], c[2]); len(l) > 0 {
				t.Errorf("Line of %v: %v", c, l)
			}
		}
		if l := board.Near(b, far); len(l) > 0 {
			t.Errorf("Near of %d: %v", far, l)
		}
		if x, e := board.Without(b, far); e != api.ErrArg || !zero(x) {
			t.Errorf("Without %d: %v, %v", far, x, e)
		}
	}
	for _, c := range [][3]int{{2, 0, 4}, {0, 8, 4}, {1, 8, 4}} {
		if to := board.To(b, c[0], c[1], c[2]); to != -1 || len(board.Line(b, c[0], c[1], c[2])) > 0 {
			t.Errorf("To of %v: %d", c, to)
		}
	}
}

// zero reports whether b is the zero value.
func zero(b api.Board) bool {
	return b.Cells == 0 && len(b.Next) == 0 && len(b.Turn) == 0
}

// P1.2: what a direction is for one side, Turn of it is for the other one.
func TestSides(t *testing.T) {
	for b := range boards() {
		for d, row := range b.Next {
			for c, to := range row {
				if got := board.To(b, 0, d, c); got != to {
					t.Fatalf("%v: To of 0, %d, %d: %d", b, d, c, got)
				}
				if got := board.To(b, 1, b.Turn[d], c); got != to {
					t.Fatalf("%v: To of 1, %d, %d: %d", b, b.Turn[d], c, got)
				}
				if !slices.Equal(board.Line(b, 1, b.Turn[d], c), board.Line(b, 0, d, c)) {
					t.Fatalf("%v: Line of 1, %d, %d", b, b.Turn[d], c)
				}
			}
		}
	}
}

// P1.3: lines, where they go around, come to a cycle, to their beginning, or to an end.
func TestLineEnds(t *testing.T) {
	for _, c := range []struct {
		name  string
		next  []int
		begin int
		want  []int
	}{
		{"an end", []int{1, 2, -1}, 0, []int{1, 2}},
		{"no step", []int{1, 2, -1}, 2, nil},
		{"the beginning", []int{1, 2, 0}, 1, []int{2, 0}},
		{"a cycle", []int{1, 2, 3, 1}, 0, []int{1, 2, 3}},
		{"a cell that leads to itself", []int{1, 1}, 0, []int{1}},
		{"a beginning that leads to itself", []int{0, 0}, 0, nil},
	} {
		b := api.Board{Cells: len(c.next), Next: [][]int{c.next}, Turn: []int{0}}
		if got := board.Line(b, 0, 0, c.begin); !slices.Equal(got, c.want) {
			t.Errorf("%s: %v", c.name, got)
		}
	}
}

// P1.3: the longest line has all cells but one.
func TestLongestLine(t *testing.T) {
	for _, c := range []int{0, 1, 63} {
		line := board.Line(ring(api.MaxCells), 0, 0, c)
		if len(line) != api.MaxCells-1 || line[0] != (c+1)%api.MaxCells || slices.Contains(line, c) {
			t.Errorf("from %d: %v", c, line)
		}
	}
}

// P1.3: a line is followed step by step, has no cell twice, and goes as far as it can.
func TestLines(t *testing.T) {
	for b := range boards() {
		for side := range 2 {
			for d := range b.Next {
				for c := range b.Cells {
					line := board.Line(b, side, d, c)
					if want := followed(b, side, d, c); !slices.Equal(line, want) {
						t.Fatalf("%v: Line of %d, %d, %d: %v, not %v", b, side, d, c, line, want)
					}
				}
			}
		}
	}
}

// followed returns the cells to which one comes by steps until one was there before.
func followed(b api.Board, side, d, c int) []int {
	if side == 1 {
		d = b.Turn[d]
	}
	cells := []int{c}
	for {
		to := b.Next[d][cells[len(cells)-1]]
		if to < 0 || slices.Contains(cells, to) {
			return cells[1:]
		}
		cells = append(cells, to)
	}
}

// P1.4: Near has exactly the cells at the distance 1.
func TestNeighbors(t *testing.T) {
	for b := range boards() {
		far := board.Far(b)
		for c := range b.Cells {
			var want []int
			for to, n := range far[c] {
				if n == 1 {
					want = append(want, to)
				}
			}
			if got := board.Near(b, c); !slices.Equal(got, want) {
				t.Fatalf("%v: Near of %d: %v, not %v", b, c, got, want)
			}
		}
	}
}

// P1.5: a distance is 0 for the cell itself, and otherwise greater by 1 than the least one of the cells before.
func TestDistances(t *testing.T) {
	for b := range boards() {
		far := board.Far(b)
		if len(far) != b.Cells {
			t.Fatalf("%v: %d lists", b, len(far))
		}
		for a := range far {
			if len(far[a]) != b.Cells || far[a][a] != 0 {
				t.Fatalf("%v: the distances from %d: %v", b, a, far[a])
			}
			for c, n := range far[a] {
				if c != a && n != oneMore(b, far[a], c) {
					t.Fatalf("%v: the distance from %d to %d: %d", b, a, c, n)
				}
			}
		}
	}
}

// oneMore returns 1 more than the least of the distances of cells from which a step leads to c, or -1.
func oneMore(b api.Board, far []int, c int) int {
	least := -1
	for _, row := range b.Next {
		for from, to := range row {
			if to == c && far[from] >= 0 && (least < 0 || far[from]+1 < least) {
				least = far[from] + 1
			}
		}
	}
	return least
}

// P1.5: distances in one direction only.
func TestOneWay(t *testing.T) {
	b := api.Board{Cells: 4, Next: [][]int{{1, 2, 3, 1}}, Turn: []int{0}}
	want := [][]int{{0, 1, 2, 3}, {-1, 0, 1, 2}, {-1, 2, 0, 1}, {-1, 1, 2, 0}}
	for c, got := range board.Far(b) {
		if !slices.Equal(got, want[c]) {
			t.Errorf("from %d: %v", c, got)
		}
	}
}

// P1.6: cells are linked backwards, too, and by several steps that lead in different ways.
func TestLinkedBackwards(t *testing.T) {
	for _, c := range []struct{ next, want []int }{
		{[]int{2, 2, -1, -1}, []int{0, 0, 0, 3}},
		{[]int{-1, 0, 1}, []int{0, 0, 0}},
		{[]int{3, 2, -1, -1, 2, 3}, []int{0, 1, 1, 0, 1, 0}},
		{[]int{0, -1}, []int{0, 1}},
	} {
		b := api.Board{Cells: len(c.next), Next: [][]int{c.next}, Turn: []int{0}}
		if got := board.Parts(b); !slices.Equal(got, c.want) {
			t.Errorf("%v: %v, not %v", c.next, got, c.want)
		}
	}
}

// P1.6: each cell has the least one of those that are linked with it.
func TestParts(t *testing.T) {
	for b := range boards() {
		parts := board.Parts(b)
		if want := leastLinked(b); !slices.Equal(parts, want) {
			t.Fatalf("%v: %v, not %v", b, parts, want)
		}
	}
}

// leastLinked marks which cells are linked with which, until nothing is added.
func leastLinked(b api.Board) []int {
	parts := make([]int, b.Cells)
	for c := range parts {
		parts[c] = c
	}
	for changed := true; changed; {
		changed = false
		for _, row := range b.Next {
			for from, to := range row {
				if to >= 0 && parts[from] != parts[to] {
					least := min(parts[from], parts[to])
					parts[from], parts[to], changed = least, least, true
				}
			}
		}
	}
	return parts
}

// P1.7: in a grid, Turn leads back; the distance is the greater difference of columns and rows.
func TestGrids(t *testing.T) {
	for w := 1; w <= api.MaxCells; w++ {
		for h := 1; w*h <= api.MaxCells; h++ {
			b := grid(t, w, h)
			if !board.Valid(b) || b.Cells != w*h || len(b.Next) != 8 {
				t.Fatalf("%d, %d: %v", w, h, b)
			}
			checkSteps(t, b, w, h)
			far := board.Far(b)
			for a := range b.Cells {
				for c := range b.Cells {
					if want := max(apart(a%w, c%w), apart(a/w, c/w)); far[a][c] != want {
						t.Fatalf("%d, %d: from %d to %d: %d, not %d", w, h, a, c, far[a][c], want)
					}
				}
			}
		}
	}
}

// checkSteps checks where the directions of a grid lead.
func checkSteps(t *testing.T, b api.Board, w, h int) {
	t.Helper()
	across, down := []int{0, 1, 1, 1, 0, -1, -1, -1}, []int{-1, -1, 0, 1, 1, 1, 0, -1}
	for d := range 8 {
		if b.Turn[d] != (d+4)%8 {
			t.Fatalf("%d, %d: Turn of %d: %d", w, h, d, b.Turn[d])
		}
		for c := range b.Cells {
			x, y, want := c%w+across[d], c/w+down[d], -1
			if 0 <= x && x < w && 0 <= y && y < h {
				want = y*w + x
			}
			to := board.To(b, 0, d, c)
			if to != want || to >= 0 && board.To(b, 1, d, to) != c {
				t.Fatalf("%d, %d: from %d in the direction %d to %d, not %d", w, h, c, d, to, want)
			}
		}
	}
}

// apart returns the difference of two numbers.
func apart(a, b int) int {
	return max(a-b, b-a)
}

// P1.7: grids that are too small or too large, also where the product wraps around.
func TestGridLimits(t *testing.T) {
	for _, c := range [][2]int{{0, 0}, {0, 1}, {1, 0}, {-1, 1}, {1, -1}, {-1, -1}, {-8, -8}, {math.MinInt, 1}, {1, math.MinInt}, {math.MinInt, -1},
		{65, 1}, {1, 65}, {8, 9}, {9, 8}, {5, 13}, {64, 2}, {1 << 62, 4}, {4, 1 << 62}, {1 << 32, 1 << 32}, {math.MaxInt, math.MaxInt}, {math.MaxInt, 1}} {
		if b, e := board.Grid(c[0], c[1]); e != api.ErrArg || !zero(b) {
			t.Errorf("Grid of %v: %v, %v", c, b, e)
		}
	}
	for _, c := range [][2]int{{1, 1}, {64, 1}, {1, 64}, {8, 8}, {7, 9}, {9, 7}, {32, 2}} {
		if b := grid(t, c[0], c[1]); !board.Valid(b) || b.Cells != c[0]*c[1] {
			t.Errorf("Grid of %v: %v", c, b)
		}
	}
}

// P1.8: a cell that is taken out has no steps; all others remain.
func TestWithout(t *testing.T) {
	for b := range boards() {
		for out := range b.Cells {
			got, e := board.Without(b, out)
			if e != api.OK || !board.Valid(got) || got.Cells != b.Cells || len(got.Next) != len(b.Next) || !slices.Equal(got.Turn, b.Turn) {
				t.Fatalf("%v without %d: %v, %v", b, out, got, e)
			}
			for d, row := range b.Next {
				for c, to := range row {
					if c == out || to == out {
						to = -1
					}
					if got.Next[d][c] != to {
						t.Fatalf("%v without %d: from %d in the direction %d to %d", b, out, c, d, got.Next[d][c])
					}
				}
			}
			if parts := board.Parts(got); slices.Index(parts, out) != out || slices.Contains(parts[out+1:], out) || len(board.Near(got, out)) > 0 {
				t.Fatalf("%v without %d: parts %v", b, out, parts)
			}
		}
	}
}
