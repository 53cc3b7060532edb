package run_test

import (
	"iter"
	"math/rand/v2"
	"slices"

	"skewer/api"
	"skewer/game"
	"skewer/specimen"
)

// sample is a man of the mover with a program of its kind.
type sample struct {
	g       api.Game
	p       api.Pos
	cell, i int
}

// samples yields men of valid positions of valid games, each with each of its programs. They are the same ones each time.
func samples() iter.Seq[sample] {
	return func(yield func(sample) bool) {
		r := rand.New(rand.NewPCG(1, 2))
		for range 3000 {
			g := specimen.Game(r.IntN)
			for range 10 {
				if !yieldMen(g, specimen.Pos(r.IntN, g), yield) {
					return
				}
			}
		}
	}
}

// yieldMen yields all men of the mover, each with each of its programs, as long as yield reports true.
func yieldMen(g api.Game, p api.Pos, yield func(sample) bool) bool {
	for cell, content := range p.At {
		kind, side := game.Man(content)
		if side != p.Side {
			continue
		}
		for i := range g.Kinds[kind].Progs {
			if !yield(sample{g, p, cell, i}) {
				return false
			}
		}
	}
	return true
}

// steps returns the steps of the program.
func (x sample) steps() api.Prog {
	kind, _ := game.Man(x.p.At[x.cell])
	return x.g.Kinds[kind].Progs[x.i]
}

// with returns x with these steps in place of those of its program.
func (x sample) with(steps api.Prog) sample {
	kind, _ := game.Man(x.p.At[x.cell])
	x.g.Kinds = slices.Clone(x.g.Kinds)
	progs := slices.Clone(x.g.Kinds[kind].Progs)
	progs[x.i] = steps
	x.g.Kinds[kind].Progs = progs
	return x
}
