package play

import (
	"slices"

	"skewer/api"
	"skewer/game"
	"skewer/pos"
)

// end returns Then of the first clause that holds in p, and whether there is one.
func end(g api.Game, p api.Pos) (int, bool) {
	i := slices.IndexFunc(g.Clauses, func(c api.Clause) bool { return holds(g, p, c) })
	if i < 0 {
		return 0, false
	}
	return g.Clauses[i].Then, true
}

// holds reports whether the clause holds in p.
func holds(g api.Game, p api.Pos, c api.Clause) bool {
	mine, theirs := game.Code(c.Kind, p.Side), game.Code(c.Kind, 1-p.Side)
	conditions := [...]func() bool{
		api.Lacks: func() bool { return !slices.Contains(p.At, mine) },
		api.Holds: func() bool { return c.N >= 0 && c.N < len(p.At) && p.At[c.N] == theirs },
		api.Few:   func() bool { return men(g, p) <= c.N },
	}
	if c.If < api.Lacks || c.If >= len(conditions) {
		return false
	}
	return conditions[c.If]()
}

// men returns how many men the mover has on the board.
func men(g api.Game, p api.Pos) int {
	sum := 0
	for _, n := range pos.Count(g, p, p.Side) {
		sum += n
	}
	return sum
}
