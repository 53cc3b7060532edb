// Package specimen has games and positions of many sorts, on which the tests of the layers try what holds for all. Only tests use it.
//
// Which ones they are is up to the caller: for the same numbers that it picks, they are the same.
package specimen

import (
	"iter"
	"slices"

	"skewer/api"
	"skewer/prog"
)

// Pick returns a number in the range 0 to n - 1, if n is at least 1.
type Pick func(n int) int

// one returns one of the elements of l.
func one[E any](pick Pick, l []E) E {
	return l[pick(len(l))]
}

// Game returns a valid game on a small board, whose steps may lead anywhere; half of the games have clauses.
func Game(pick Pick) api.Game {
	g := api.Game{Board: board(pick), Rights: pick(api.MaxRights + 1), Must: pick(2) == 0, Blocked: result(pick), Endless: result(pick)}
	g.Kinds = make([]api.Kind, 1+pick(3))
	for i := range g.Kinds {
		g.Kinds[i] = api.Kind{Name: string(rune('a' + i)), Keep: pick(2) == 0}
		for range 1 + pick(3) {
			g.Kinds[i].Progs = append(g.Kinds[i].Progs, Prog(pick, g))
		}
	}
	if pick(2) == 0 {
		for range 1 + pick(3) {
			g.Clauses = append(g.Clauses, Clause(pick, g))
		}
	}
	return g
}

// Even returns g, as Game returns one, with each program turned, too: so it often has symmetries.
func Even(g api.Game) api.Game {
	g.Kinds = slices.Clone(g.Kinds)
	for i, k := range g.Kinds {
		progs := slices.Clone(k.Progs)
		for _, p := range k.Progs {
			progs = append(progs, prog.Turned(p, g.Board.Turn))
		}
		g.Kinds[i].Progs = progs
	}
	return g
}

// board returns a valid board: half of the boards are rows, the others any graphs.
func board(pick Pick) api.Board {
	b := api.Board{Cells: 1 + pick(7), Turn: []int{1, 0}}
	if pick(2) == 0 {
		b.Next = make([][]int, 2)
		for c := range b.Cells {
			b.Next[0] = append(b.Next[0], c+1)
			b.Next[1] = append(b.Next[1], c-1)
		}
		b.Next[0][b.Cells-1] = -1
		return b
	}
	b.Turn = one(pick, [][]int{{1, 0}, {1, 0}, {0}, {0, 1}, {2, 1, 0}, {1, 0, 2}, {3, 2, 1, 0}, {0, 1, 2, 3, 4, 5, 7, 6}})
	for range b.Turn {
		var row []int
		for range b.Cells {
			row = append(row, max(-1, pick(b.Cells+1)-1))
		}
		b.Next = append(b.Next, row)
	}
	return b
}

// Prog returns a program that is valid for g: a third of the programs are usual ones, the others any steps.
func Prog(pick Pick, g api.Game) api.Prog {
	if pick(3) == 0 {
		return usual(pick, g)
	}
	// Many steps go somewhere, so that programs often come to an end.
	ops := []int{api.Go, api.Go, api.Go, api.Slide, api.Slide, api.Slide, api.Slide, api.Empty, api.Enemy, api.Friend, api.Take, api.Take, api.Push, api.Become, api.Need, api.Lose}
	var p api.Prog
	for range 1 + pick(1+pick(api.MaxSteps)) {
		// Each step is valid by itself, but there could be too many of some.
		longer := append(p, step(pick, g, one(pick, ops)))
		if prog.Valid(longer, len(g.Board.Next), len(g.Kinds), g.Rights) {
			p = longer
		}
	}
	return p
}

// usual returns a program by which a man goes somewhere, or captures.
func usual(pick Pick, g api.Game) api.Prog {
	first := step(pick, g, one(pick, []int{api.Go, api.Slide}))
	return one(pick, []api.Prog{{first}, {first, {Op: api.Take}}, {first, {Op: api.Enemy}, {Op: api.Take}}})
}

// step returns a step with this Op, or another one if g has no rights.
func step(pick Pick, g api.Game, op int) api.Step {
	switch op {
	case api.Go, api.Slide, api.Push:
		return api.Step{Op: op, N: pick(len(g.Board.Next))}
	case api.Become:
		return api.Step{Op: op, N: pick(len(g.Kinds))}
	case api.Need, api.Lose:
		if g.Rights == 0 {
			return api.Step{Op: api.Empty}
		}
		return api.Step{Op: op, N: pick(g.Rights)}
	}
	return api.Step{Op: op}
}

// Clause returns a clause that is right for g.
func Clause(pick Pick, g api.Game) api.Clause {
	c := api.Clause{If: api.Lacks + pick(3), Then: result(pick)}
	switch c.If {
	case api.Lacks:
		c.Kind = pick(len(g.Kinds))
	case api.Holds:
		c.Kind, c.N = pick(len(g.Kinds)), pick(g.Board.Cells)
	case api.Few:
		// Larger numbers would end nearly all positions.
		c.N = pick(3)
	}
	return c
}

// result returns a result.
func result(pick Pick) int {
	return api.Win + pick(3)
}

// Pos returns a valid position of g, with many men or few.
func Pos(pick Pick, g api.Game) api.Pos {
	p := api.Pos{At: make([]int, g.Board.Cells), Rights: pick(1 << g.Rights), Side: pick(2)}
	men := 1 + pick(5)
	for c := range p.At {
		if pick(5) < men {
			p.At[c] = 1 + pick(2*len(g.Kinds))
		}
	}
	for side := range p.Hand {
		p.Hand[side] = make([]int, len(g.Kinds))
		for i, k := range g.Kinds {
			if k.Keep {
				p.Hand[side][i] = one(pick, []int{0, 1, 7, 8, pick(9)})
			}
		}
	}
	return p
}

// Samples yields so many valid games, each with so many valid positions.
func Samples(pick Pick, games, positions int) iter.Seq2[api.Game, api.Pos] {
	return func(yield func(api.Game, api.Pos) bool) {
		for range games {
			g := Game(pick)
			for range positions {
				if !yield(g, Pos(pick, g)) {
					return
				}
			}
		}
	}
}

// Copied returns a position that is equal to p, and shares no memory with it.
func Copied(p api.Pos) api.Pos {
	p.At = slices.Clone(p.At)
	for side, hand := range p.Hand {
		p.Hand[side] = slices.Clone(hand)
	}
	return p
}
