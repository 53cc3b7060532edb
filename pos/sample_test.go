package pos_test

import (
	"iter"
	"math"
	"math/rand/v2"
	"slices"

	"skewer/api"
	"skewer/specimen"
)

// edges has numbers around those that matter, and the farthest ones.
var edges = []int{math.MinInt, math.MinInt32, -257, -256, -255, -2, -1, 0, 1, 2, 3, 4, 6, 7, 8, 9, 10, 11, 12, 13, 14, 15, 16, 17, 63, 64, 127, 128, 255, 256, 257, math.MaxInt32, math.MaxInt}

// posOf returns the position with these cells and empty hands, rights and side.
func posOf(kinds int, at ...int) api.Pos {
	return api.Pos{At: at, Hand: [2][]int{make([]int, kinds), make([]int, kinds)}}
}

// largest returns the greatest valid game and the greatest one of its positions.
func largest() (api.Game, api.Pos) {
	g := specimen.Still(api.MaxCells, api.MaxRights, true, true, true, true, true, true)
	p := api.Pos{At: slices.Repeat([]int{12}, api.MaxCells), Rights: 15, Side: 1}
	for side := range p.Hand {
		p.Hand[side] = slices.Repeat([]int{api.MaxHand}, api.MaxKinds)
	}
	return g, p
}

// games yields valid games of many sizes. They are the same ones each time.
func games() iter.Seq[api.Game] {
	return func(yield func(api.Game) bool) {
		r := rand.New(rand.NewPCG(1, 2))
		big, _ := largest()
		if !yield(big) {
			return
		}
		for range 300 {
			keep := make([]bool, 1+r.IntN(api.MaxKinds))
			for i := range keep {
				keep[i] = r.IntN(2) == 0
			}
			if !yield(specimen.Still(1+r.IntN(5), r.IntN(api.MaxRights+1), keep...)) {
				return
			}
		}
	}
}

// valid yields valid positions with their games. They are the same ones each time.
func valid() iter.Seq2[api.Game, api.Pos] {
	return func(yield func(api.Game, api.Pos) bool) {
		r := rand.New(rand.NewPCG(3, 4))
		if !yield(largest()) {
			return
		}
		for g := range games() {
			for range 20 {
				if !yield(g, anyPos(r, g)) {
					return
				}
			}
		}
	}
}

// anyPos returns a valid position of g.
func anyPos(r *rand.Rand, g api.Game) api.Pos {
	p := posOf(len(g.Kinds), make([]int, g.Board.Cells)...)
	for c := range p.At {
		p.At[c] = r.IntN(2*len(g.Kinds) + 1)
	}
	for side := range p.Hand {
		for i, k := range g.Kinds {
			if k.Keep {
				p.Hand[side][i] = r.IntN(api.MaxHand + 1)
			}
		}
	}
	p.Rights, p.Side = r.IntN(1<<g.Rights), r.IntN(2)
	return p
}

// near returns p with one of its numbers another one, which may be in its range or not, or with a list that is longer or shorter.
func near(r *rand.Rand, p api.Pos) api.Pos {
	p = copied(p)
	number := edges[r.IntN(len(edges))]
	lists := []*[]int{&p.At, &p.Hand[0], &p.Hand[1]}
	l := lists[r.IntN(len(lists))]
	switch r.IntN(6) {
	case 0:
		*l = append(*l, number)
	case 1:
		*l = (*l)[:max(0, len(*l)-1)]
	case 2:
		p.Rights = number
	case 3:
		p.Side = number
	default:
		if len(*l) > 0 {
			(*l)[r.IntN(len(*l))] = number
		}
	}
	return p
}

// copied returns a position that is equal to p, and shares no memory with it.
func copied(p api.Pos) api.Pos {
	return api.Pos{At: slices.Clone(p.At), Hand: [2][]int{slices.Clone(p.Hand[0]), slices.Clone(p.Hand[1])}, Rights: p.Rights, Side: p.Side}
}

// small yields positions that need not be valid, of few short lists of few numbers, so that many are equal, or begin with each other.
func small() iter.Seq[api.Pos] {
	return func(yield func(api.Pos) bool) {
		r := rand.New(rand.NewPCG(5, 6))
		list := func() []int {
			l := make([]int, r.IntN(3))
			for i := range l {
				l[i] = r.IntN(3) - 1
			}
			return l
		}
		for range 120 {
			p := api.Pos{At: list(), Hand: [2][]int{list(), list()}, Rights: r.IntN(3) - 1, Side: r.IntN(3) - 1}
			if r.IntN(4) == 0 {
				p.Hand = [2][]int{}
			}
			if !yield(p) {
				return
			}
		}
	}
}
