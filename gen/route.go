package gen

import (
	"slices"

	"skewer/api"
	"skewer/board"
)

// compiled returns the paths of the programs of a side, from each cell; of more than most, only most + 1 of them.
func compiled(b api.Board, side int, progs []api.Prog, most int) [][]api.Path {
	var routes []route
	for _, steps := range progs {
		routes = append(routes, newRoute(b, side, steps))
	}
	all := make([][]api.Path, b.Cells)
	for cell := range all {
		for _, r := range routes {
			l := r.paths(cell, most)
			all[cell] = append(all[cell], l...)
			most -= len(l)
		}
	}
	return all
}

// route is a program of a side on a board.
type route struct {
	board api.Board
	side  int
	steps api.Prog
	// open says, for each number of steps that are done, from which cells on the other ones can come to an end. Very many ways can lead to where no path goes on; they are not followed.
	open [][]bool
}

// newRoute returns the route of a program.
func newRoute(b api.Board, side int, steps api.Prog) route {
	r := route{b, side, steps, make([][]bool, len(steps)+1)}
	r.open[len(steps)] = slices.Repeat([]bool{true}, b.Cells)
	for n, step := range slices.Backward(steps) {
		legs, after := r.legs(step), r.open[n+1]
		goesOn := func(leg api.Path) bool { return after[leg.To] }
		r.open[n] = make([]bool, b.Cells)
		for cell := range r.open[n] {
			r.open[n][cell] = slices.ContainsFunc(legs(cell), goesOn)
		}
	}
	return r
}

// paths returns the paths of the program from the cell, in order; of more than most, the first most + 1 of them.
func (r route) paths(cell, most int) []api.Path {
	// The cursor of a path that is not at its end yet is where it leads to.
	l := []api.Path{{To: cell}}
	for n, step := range r.steps {
		legs := r.legs(step)
		var next []api.Path
	ways:
		for _, p := range l {
			for _, leg := range legs(p.To) {
				// Each path that is kept comes to an end, so that there will not be fewer of them.
				if len(next) > most {
					break ways
				}
				if r.open[n+1][leg.To] {
					next = append(next, api.Path{Acts: slices.Concat(p.Acts, leg.Acts), To: leg.To})
				}
			}
		}
		l = next
	}
	return l
}

// legs returns the function that tells how paths go on with the step from a cell, in order: with which acts, and where to. The legs of one cell share memory.
func (r route) legs(step api.Step) func(from int) []api.Path {
	next := func(from int) int { return board.To(r.board, r.side, step.N, from) }
	switch step.Op {
	case api.Go:
		return func(from int) []api.Path { return legTo(next(from), next(from)) }
	case api.Slide:
		return func(from int) []api.Path { return slide(board.Line(r.board, r.side, step.N, from)) }
	case api.Push:
		return func(from int) []api.Path {
			return legTo(next(from), from, api.Act{Op: api.Push, A: from, B: next(from)})
		}
	case api.Empty, api.Enemy, api.Friend, api.Take:
		return func(from int) []api.Path { return legTo(from, from, api.Act{Op: step.Op, A: from}) }
	}
	// What is left are Become, Need and Lose.
	return func(from int) []api.Path { return legTo(from, from, api.Act{Op: step.Op, A: step.N}) }
}

// legTo returns the leg with the acts to the cell, or none if a cell that it needs is not there.
func legTo(needed, to int, acts ...api.Act) []api.Path {
	if needed < 0 {
		return nil
	}
	return []api.Path{{Acts: acts, To: to}}
}

// slide returns the legs to each cell of a line, for which those before it have to be empty.
func slide(line []int) []api.Path {
	var legs []api.Path
	var acts []api.Act
	for _, cell := range line {
		legs = append(legs, api.Path{Acts: acts, To: cell})
		acts = append(acts, api.Act{Op: api.Empty, A: cell})
	}
	return legs
}
