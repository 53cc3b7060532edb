package specimen

import (
	"iter"
	"slices"

	"skewer/api"
	"skewer/pos"
	"skewer/solve"
)

// Lists yields closed lists of so many valid games, one for each game; games with too many positions are left out. In some lists, there are several plays, and turns of both sides at the beginning.
func Lists(pick Pick, games int) iter.Seq2[api.Game, []api.Pos] {
	return func(yield func(api.Game, []api.Pos) bool) {
		for range games {
			g := Game(pick)
			l, e := solve.All(g, Pos(pick, g))
			if e != api.OK {
				continue
			}
			if more, e := solve.All(g, Pos(pick, g)); e == api.OK && pick(2) == 0 {
				l = pos.Sort(slices.Concat(l, more))
			}
			if !yield(g, l) {
				return
			}
		}
	}
}

// Measure returns a right measure for g, which may be each one that is right.
func Measure(pick Pick, g api.Game) api.Measure {
	var m api.Measure
	for range g.Kinds {
		m.Kinds = append(m.Kinds, 1+pick(api.MaxKinds))
	}
	for raise(g, m) {
	}
	return m
}

// raise gives kinds the weights of those that they become, if these are greater, and reports whether there were any.
func raise(g api.Game, m api.Measure) bool {
	raised := false
	for i, k := range g.Kinds {
		for _, s := range slices.Concat(k.Progs...) {
			if s.Op == api.Become && m.Kinds[s.N] > m.Kinds[i] {
				m.Kinds[i] = m.Kinds[s.N]
				raised = true
			}
		}
	}
	return raised
}
