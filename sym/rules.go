package sym

import (
	"cmp"
	"iter"
	"slices"

	"skewer/api"
	"skewer/prog"
)

// fits reports whether the board of g has no more cells and directions than a valid one, and the numbers by which lists are indexed are in their ranges.
func fits(g api.Game) bool {
	b := g.Board
	if b.Cells < 1 || b.Cells > api.MaxCells || len(b.Next) < 1 || len(b.Next) > api.MaxDirs || len(b.Turn) != len(b.Next) {
		return false
	}
	for _, row := range b.Next {
		if len(row) != b.Cells || !within(row, -1, b.Cells-1) {
			return false
		}
	}
	return within(b.Turn, 0, len(b.Turn)-1) && within(held(g.Clauses), 0, b.Cells-1)
}

// within reports whether all numbers of l are in the range from least to most.
func within(l []int, least, most int) bool {
	return !slices.ContainsFunc(l, func(n int) bool { return n < least || n > most })
}

// held returns the cells that clauses name.
func held(clauses []api.Clause) []int {
	var cells []int
	for _, c := range clauses {
		if c.If == api.Holds {
			cells = append(cells, c.N)
		}
	}
	return cells
}

// keepsCells reports whether each of these cells goes to itself: only so do the clauses that name them remain.
func keepsCells(l, cells []int) bool {
	return !slices.ContainsFunc(l, func(c int) bool { return cells[c] != c })
}

// keepsSteps reports whether s takes the steps of each direction to those of the one to which it goes.
func keepsSteps(next [][]int, s api.Sym) bool {
	for d, row := range next {
		for c, to := range row {
			if to >= 0 {
				to = s.Cells[to]
			}
			if next[s.Dirs[d]][s.Cells[c]] != to {
				return false
			}
		}
	}
	return true
}

// keepsTurn reports whether turn takes the directions to those to which it should, as far as that can be told from dirs, which may have only the first of them.
func keepsTurn(turn, dirs []int) bool {
	for d, to := range dirs {
		if turn[d] < len(dirs) && turn[to] != dirs[turn[d]] {
			return false
		}
	}
	return true
}

// keepsProgs reports whether each kind has the same programs, as many of each, if they are turned by dirs.
func keepsProgs(kinds []api.Kind, dirs []int) bool {
	for _, k := range kinds {
		var turned []api.Prog
		for _, p := range k.Progs {
			turned = append(turned, prog.Turned(p, dirs))
		}
		same := func(p, q api.Prog) bool { return compareProgs(p, q) == 0 }
		if !slices.EqualFunc(sorted(k.Progs), sorted(turned), same) {
			return false
		}
	}
	return true
}

// sorted returns the programs in some order that does not depend on that in l.
func sorted(l []api.Prog) []api.Prog {
	return slices.SortedFunc(slices.Values(l), compareProgs)
}

// compareProgs compares programs by the first steps in which they differ.
func compareProgs(p, q api.Prog) int {
	return slices.CompareFunc(p, q, func(s, t api.Step) int {
		return cmp.Or(cmp.Compare(s.Op, t.Op), cmp.Compare(s.N, t.N))
	})
}

// turns yields, in order, the permutations of the directions that preserve Turn and the programs, if they may be Dirs of a symmetry. Of those by which directions go to ones with the same steps, it yields only the first: they are Dirs of the same symmetries.
func turns(g api.Game) iter.Seq[[]int] {
	return func(yield func([]int) bool) {
		first, shape := firsts(g.Board.Next), shapes(g.Board.Next)
		may := func(dirs []int) bool {
			last := len(dirs) - 1
			return shape[last] == shape[dirs[last]] && keepsTurn(g.Board.Turn, dirs)
		}
		seen := map[[api.MaxDirs]int]bool{}
		for dirs := range permutations(len(first), may, nil) {
			var to [api.MaxDirs]int
			for d := range dirs {
				to[d] = first[dirs[d]]
			}
			if seen[to] || !keepsProgs(g.Kinds, dirs) {
				continue
			}
			seen[to] = true
			if !yield(dirs) {
				return
			}
		}
	}
}

// firsts returns for each direction the first one with the same steps.
func firsts(next [][]int) []int {
	var first []int
	for _, row := range next {
		first = append(first, slices.IndexFunc(next, func(other []int) bool { return slices.Equal(row, other) }))
	}
	return first
}

// permutations yields, in order, the permutations of the numbers less than n that begin in this way, if each longer beginning may be one.
func permutations(n int, may func([]int) bool, begin []int) iter.Seq[[]int] {
	return func(yield func([]int) bool) {
		if len(begin) == n {
			yield(begin)
			return
		}
		for d := range n {
			longer := append(slices.Clone(begin), d)
			if slices.Contains(begin, d) || !may(longer) {
				continue
			}
			for l := range permutations(n, may, longer) {
				if !yield(l) {
					return
				}
			}
		}
	}
}
