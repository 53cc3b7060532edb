package solve

import (
	"slices"

	"skewer/api"
	"skewer/play"
)

// ended returns the value of a position that is over.
func ended(g api.Game, p api.Pos) api.Result {
	out, _ := play.Status(g, p)
	return api.Result{Out: out}
}

// winner returns the side that wins p, if out is its result, or -1.
func winner(p api.Pos, out int) int {
	switch out {
	case api.Win:
		return p.Side
	case api.Loss:
		return 1 - p.Side
	}
	return -1
}

// outs returns the results of the values, without the numbers of moves.
func outs(v []api.Result) []int {
	out := make([]int, len(v))
	for i, r := range v {
		out[i] = r.Out
	}
	return out
}

// isRight reports whether the entry of a position is locally right, if these are its moves, of which there are some.
func isRight(entry api.Result, moves []int, v []api.Result) bool {
	var losses, wins []int
	for _, to := range moves {
		switch v[to].Out {
		case api.Loss:
			losses = append(losses, v[to].N)
		case api.Win:
			wins = append(wins, v[to].N)
		}
	}
	switch {
	case len(losses) > 0:
		return entry.Out == api.Win && isAfter(entry.N, slices.Min(losses))
	case len(wins) == len(moves):
		return entry.Out == api.Loss && isAfter(entry.N, slices.Max(wins))
	}
	return entry == api.Result{Out: api.Draw}
}

// isAfter reports whether n is by 1 greater than m, which may be the greatest number.
func isAfter(n, m int) bool {
	return n > m && n-1 == m
}

// afterBest returns the value to which a best move leads from a position with the value r.
func afterBest(r api.Result) api.Result {
	switch r.Out {
	case api.Win:
		return api.Result{Out: api.Loss, N: r.N - 1}
	case api.Loss:
		return api.Result{Out: api.Win, N: r.N - 1}
	}
	return r
}
