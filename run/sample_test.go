package run_test

import (
	"iter"
	"math"
	"math/rand/v2"
	"slices"

	"skewer/api"
	"skewer/game"
	"skewer/prog"
)

// edges has numbers around those that matter, and the farthest ones.
var edges = []int{math.MinInt, math.MinInt32, -65, -64, -2, -1, 0, 1, 2, 3, 4, 5, 6, 7, 8, 9, 10, 11, 12, 13, 63, 64, 65, 255, 256, math.MaxInt32, math.MaxInt}

// sample is a man of the mover with a program of its kind.
type sample struct {
	g       api.Game
	p       api.Pos
	cell, i int
}

// samples yields men of valid positions of valid games, each with each of its programs. They are the same ones each time.
func samples() iter.Seq[sample] {
	return func(yield func(sample) bool) {
		r := rand.New(rand.NewPCG(1, 2))
		for range 3000 {
			g := anyGame(r)
			for range 10 {
				if !yieldMen(g, anyPos(r, g), yield) {
					return
				}
			}
		}
	}
}

// yieldMen yields all men of the mover, each with each of its programs, as long as yield reports true.
func yieldMen(g api.Game, p api.Pos, yield func(sample) bool) bool {
	for cell, content := range p.At {
		kind, side := game.Man(content)
		if side != p.Side {
			continue
		}
		for i := range g.Kinds[kind].Progs {
			if !yield(sample{g, p, cell, i}) {
				return false
			}
		}
	}
	return true
}

// steps returns the steps of the program.
func (x sample) steps() api.Prog {
	kind, _ := game.Man(x.p.At[x.cell])
	return x.g.Kinds[kind].Progs[x.i]
}

// with returns x with these steps in place of those of its program.
func (x sample) with(steps api.Prog) sample {
	kind, _ := game.Man(x.p.At[x.cell])
	x.g.Kinds = slices.Clone(x.g.Kinds)
	progs := slices.Clone(x.g.Kinds[kind].Progs)
	progs[x.i] = steps
	x.g.Kinds[kind].Progs = progs
	return x
}

// anyGame returns a valid game on a small board, whose steps may lead anywhere.
func anyGame(r *rand.Rand) api.Game {
	g := api.Game{Board: anyBoard(r), Rights: r.IntN(api.MaxRights + 1), Blocked: api.Loss, Endless: api.Draw}
	g.Kinds = make([]api.Kind, 1+r.IntN(3))
	for i := range g.Kinds {
		g.Kinds[i] = api.Kind{Name: string(rune('a' + i)), Keep: r.IntN(2) == 0}
		for range 1 + r.IntN(3) {
			g.Kinds[i].Progs = append(g.Kinds[i].Progs, anyProg(r, g))
		}
	}
	return g
}

// anyBoard returns a valid board: half of them are rows, the others any graphs.
func anyBoard(r *rand.Rand) api.Board {
	b := api.Board{Cells: 1 + r.IntN(7), Turn: []int{1, 0}}
	if r.IntN(2) == 0 {
		b.Next = make([][]int, 2)
		for c := range b.Cells {
			b.Next[0] = append(b.Next[0], c+1)
			b.Next[1] = append(b.Next[1], c-1)
		}
		b.Next[0][b.Cells-1] = -1
		return b
	}
	if r.IntN(2) == 0 {
		b.Turn = [][]int{{0}, {0, 1}, {2, 1, 0}, {1, 0, 2}, {3, 2, 1, 0}, {0, 1, 2, 3, 4, 5, 7, 6}}[r.IntN(6)]
	}
	for range b.Turn {
		var row []int
		for range b.Cells {
			row = append(row, max(-1, r.IntN(b.Cells+1)-1))
		}
		b.Next = append(b.Next, row)
	}
	return b
}

// anyProg returns a program that is valid for g.
func anyProg(r *rand.Rand, g api.Game) api.Prog {
	// Many steps go somewhere, so that programs often come to an end.
	ops := []int{api.Go, api.Go, api.Go, api.Slide, api.Slide, api.Slide, api.Slide, api.Empty, api.Enemy, api.Friend, api.Take, api.Take, api.Push, api.Become, api.Need, api.Lose}
	for {
		var p api.Prog
		for range 1 + r.IntN(1+r.IntN(api.MaxSteps)) {
			p = append(p, anyStep(r, g, ops[r.IntN(len(ops))]))
		}
		if prog.Valid(p, len(g.Board.Next), len(g.Kinds), g.Rights) {
			return p
		}
	}
}

// anyStep returns a step with this Op, or another one if g has no rights.
func anyStep(r *rand.Rand, g api.Game, op int) api.Step {
	switch op {
	case api.Go, api.Slide, api.Push:
		return api.Step{Op: op, N: r.IntN(len(g.Board.Next))}
	case api.Become:
		return api.Step{Op: op, N: r.IntN(len(g.Kinds))}
	case api.Need, api.Lose:
		if g.Rights == 0 {
			return api.Step{Op: api.Empty}
		}
		return api.Step{Op: op, N: r.IntN(g.Rights)}
	}
	return api.Step{Op: op}
}

// anyPos returns a valid position of g, with many men or few.
func anyPos(r *rand.Rand, g api.Game) api.Pos {
	p := api.Pos{At: make([]int, g.Board.Cells), Rights: r.IntN(1 << g.Rights), Side: r.IntN(2)}
	men := 1 + r.IntN(5)
	for c := range p.At {
		if r.IntN(5) < men {
			p.At[c] = 1 + r.IntN(2*len(g.Kinds))
		}
	}
	for side := range p.Hand {
		p.Hand[side] = make([]int, len(g.Kinds))
		for i, k := range g.Kinds {
			if k.Keep {
				p.Hand[side][i] = []int{0, 1, 7, 8, r.IntN(9)}[r.IntN(5)]
			}
		}
	}
	return p
}

// copied returns a position that is equal to p, and shares no memory with it.
func copied(p api.Pos) api.Pos {
	return api.Pos{At: slices.Clone(p.At), Hand: [2][]int{slices.Clone(p.Hand[0]), slices.Clone(p.Hand[1])}, Rights: p.Rights, Side: p.Side}
}
