package sym

import (
	"iter"
	"slices"
)

// match is a search for the permutations by which cells go where steps from them and to them lead likewise. Where a cell goes, and which one goes to a cell, is -1 as long as that is not decided.
type match struct {
	next     [][]int
	to, from []int
	decided  []int // the cells of which it is decided where they go, in the order of the decisions
	found    int
	follow   func(c, x int) bool
}

// ways yields the permutations of the cells by which the links a go to b, and the cells held to themselves.
func ways(a, b links, held []int) iter.Seq[[]int] {
	return func(yield func([]int) bool) {
		m := match{next: a.next, to: undecided(len(a.signs)), from: undecided(len(b.signs))}
		m.follow = follower(&m, a, b)
		for _, c := range held {
			if !m.follow(c, c) {
				return
			}
		}
		m.extend(yield)
	}
}

// undecided returns a list in which nothing is decided for any cell.
func undecided(cells int) []int {
	return slices.Repeat([]int{-1}, cells)
}

// follower returns the function that decides that a cell c goes to x, and so where the cells go to which one can come from c. It reports whether that is possible; if not, some of it may be decided.
func follower(m *match, a, b links) func(c, x int) bool {
	var follow func(c, x int) bool
	follow = func(c, x int) bool {
		if m.to[c] >= 0 || m.from[x] >= 0 {
			return m.to[c] == x
		}
		if a.signs[c] != b.signs[x] {
			return false
		}
		m.to[c], m.from[x] = x, c
		m.decided = append(m.decided, c)
		for d := range a.next {
			// Equal signs make it likely that the steps are alike, but not sure.
			after, afterX := a.next[d][c], b.next[d][x]
			if a.into[d][c] != b.into[d][x] || (after < 0) != (afterX < 0) {
				return false
			}
			if after >= 0 && !follow(after, afterX) {
				return false
			}
		}
		return true
	}
	return follow
}

// extend yields the permutations by which cells go where it is decided, and reports whether there may be others, and they are wanted.
func (m *match) extend(yield func([]int) bool) bool {
	c, linked := m.open()
	if c < 0 {
		m.found++
		return yield(slices.Clone(m.to))
	}
	decided, found := len(m.decided), m.found
	for x := range m.from {
		if m.follow(c, x) && !m.extend(yield) {
			return false
		}
		m.undo(decided)
	}
	// If c is not linked with others that are decided, these are whole parts of the board, and have gone to parts like them. If then none is left for the part of c, there are too few, wherever the others go.
	return linked || m.found > found
}

// open returns the cell of which it is not decided where it goes, and from which most steps lead to decided ones; -1 if there is none. It reports whether there are such steps: if not, none that is decided is linked with any that is not.
func (m *match) open() (int, bool) {
	best, most := -1, -1
	for c, x := range m.to {
		if x >= 0 {
			continue
		}
		n := 0
		for _, row := range m.next {
			if row[c] >= 0 && m.to[row[c]] >= 0 {
				n++
			}
		}
		if n > most {
			best, most = c, n
		}
	}
	return best, most > 0
}

// undo takes all decisions back but the first ones.
func (m *match) undo(first int) {
	for _, c := range m.decided[first:] {
		m.from[m.to[c]] = -1
		m.to[c] = -1
	}
	m.decided = m.decided[:first]
}
