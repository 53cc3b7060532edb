package solve

import (
	"slices"

	"skewer/api"
)

// values returns the values of a closed list with these moves.
func values(g api.Game, l []api.Pos, next [][]int) []api.Result {
	// An entry without a result has no value yet.
	v := make([]api.Result, len(l))
	ends := over(next)
	for _, i := range ends {
		v[i] = ended(g, l[i])
	}
	left := counter(next)
	// The queue comes to positions in the order of N, so that the first Loss found is the least one, and the last Win the greatest one.
	spread(next, ends, func(from, to int) bool {
		switch {
		case v[from].Out != 0:
			return false
		case v[to].Out == api.Loss:
			v[from] = api.Result{Out: api.Win, N: v[to].N + 1}
			return true
		case v[to].Out == api.Win && left(from) == 0:
			v[from] = api.Result{Out: api.Loss, N: v[to].N + 1}
			return true
		}
		return false
	})
	for i := range v {
		if v[i].Out == 0 {
			v[i].Out = api.Draw
		}
	}
	return v
}

// favoring returns the final results where the side wins each play that does not end; out has the results of the values.
func favoring(side int, l []api.Pos, next [][]int, out []int) []int {
	safe := safeFrom(side, l, next, out)
	final := make([]int, len(l))
	for i, p := range l {
		switch {
		case winner(p, out[i]) == 1-side:
			final[i] = out[i]
		case safe[i]:
			final[i] = api.Draw
		case p.Side == side:
			final[i] = api.Win
		default:
			final[i] = api.Loss
		}
	}
	return final
}

// safeFrom reports for each position whether the other side can bring about an end there that the side has not won.
func safeFrom(side int, l []api.Pos, next [][]int, out []int) []bool {
	won := func(i int) bool { return winner(l[i], out[i]) == side }
	ends := slices.DeleteFunc(over(next), won)
	safe := make([]bool, len(l))
	for _, i := range ends {
		safe[i] = true
	}
	left := counter(next)
	spread(next, ends, func(from, to int) bool {
		// The side itself goes to a safe position only if there is no other one.
		if safe[from] || l[from].Side == side && left(from) > 0 {
			return false
		}
		safe[from] = true
		return true
	})
	return safe
}

// spread goes back from the positions of the queue: for each move to one of them, it asks whether the position from which it leads joins the queue.
func spread(next [][]int, queue []int, joins func(from, to int) bool) {
	before := turned(next)
	for len(queue) > 0 {
		to := queue[0]
		queue = queue[1:]
		for _, from := range before[to] {
			if joins(from, to) {
				queue = append(queue, from)
			}
		}
	}
}

// turned returns, for each position, those from which moves lead to it.
func turned(next [][]int) [][]int {
	before := make([][]int, len(next))
	for from, moves := range next {
		for _, to := range moves {
			before[to] = append(before[to], from)
		}
	}
	return before
}

// counter returns a function that counts one more of the moves from the position, and returns how many are left.
func counter(next [][]int) func(i int) int {
	left := make([]int, len(next))
	for i, moves := range next {
		left[i] = len(moves)
	}
	return func(i int) int {
		left[i]--
		return left[i]
	}
}

// over returns the positions that are over.
func over(next [][]int) []int {
	var ends []int
	for i, moves := range next {
		if len(moves) == 0 {
			ends = append(ends, i)
		}
	}
	return ends
}
