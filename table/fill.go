package table

import (
	"iter"
	"slices"

	"skewer/api"
	"skewer/play"
)

// results are the entries of a list, of which some are decided.
type results struct {
	entries []api.Result
	decided []bool
	// farthest is the greatest N of the decided entries that are not Draw, or -1 if it would be less.
	farthest int
}

// table is a closed list with its moves, and with its results.
type table struct {
	results
	g    api.Game
	l    []api.Pos
	next [][]int
}

// fill decides the entries of the part by those outside of it, and returns the number of loads.
func (t *table) fill(part []int, budget int) int {
	t.start(part)
	open := slices.Clone(part)
	loads := 0
	for n := range t.rounds() {
		loads += blocks(open, budget)
		// An entry that is decided now has N = n, and so decides no other one in the same round.
		open = slices.DeleteFunc(open, func(i int) bool { return t.settle(i, n) })
	}
	for _, i := range open {
		t.decide(i, api.Result{Out: api.Draw})
	}
	return loads
}

// start makes all entries decided but those of the part.
func (r *results) start(part []int) {
	r.decided = make([]bool, len(r.entries))
	r.farthest = -1
	for i, x := range r.entries {
		if _, in := slices.BinarySearch(part, i); !in {
			r.decide(i, x)
		}
	}
}

// decide makes x the entry with the index i, which is decided then.
func (r *results) decide(i int, x api.Result) {
	r.entries[i], r.decided[i] = x, true
	if x.Out != api.Draw {
		r.farthest = max(r.farthest, x.N)
	}
}

// rounds yields the numbers of the rounds. What is decided in a round tells whether it is the last one.
func (r *results) rounds() iter.Seq[int] {
	return func(yield func(int) bool) {
		for n := 0; yield(n) && n < api.MaxNodes && r.farthest >= n; n++ {
		}
	}
}

// settle decides the entry of the position i if that can be done in the round n, and reports whether it was.
func (t *table) settle(i, n int) bool {
	x := t.found(i, n)
	if x.Out == 0 {
		return false
	}
	t.decide(i, x)
	return true
}

// found returns what the entry of the position i, which is not decided, becomes in the round n, or the zero result if it remains as it is.
func (t *table) found(i, n int) api.Result {
	moves := t.next[i]
	switch {
	case n == 0 && len(moves) == 0:
		out, _ := play.Status(t.g, t.l[i])
		return api.Result{Out: out}
	case n == 0:
		// Entries that were given may have an N below 0, which counts for nothing.
	case t.hasLoss(moves, n-1):
		return api.Result{Out: api.Win, N: n}
	case t.allWin(moves, n-1):
		return api.Result{Out: api.Loss, N: n}
	}
	return api.Result{}
}

// hasLoss reports whether a decided entry of these is Loss with this N.
func (r *results) hasLoss(moves []int, n int) bool {
	return slices.ContainsFunc(moves, func(to int) bool {
		return r.decided[to] && r.entries[to] == api.Result{Out: api.Loss, N: n}
	})
}

// allWin reports whether all of these entries are decided, and Win, and the greatest N is this one.
func (r *results) allWin(moves []int, n int) bool {
	greatest := -1
	for _, to := range moves {
		if !r.decided[to] || r.entries[to].Out != api.Win {
			return false
		}
		greatest = max(greatest, r.entries[to].N)
	}
	return greatest == n
}

// blocks returns the number of blocks, of as many positions as the budget says, in which indices are that increase.
func blocks(l []int, budget int) int {
	n := 0
	for k, i := range l {
		if k == 0 || i/budget > l[k-1]/budget {
			n++
		}
	}
	return n
}
