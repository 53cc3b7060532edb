package specimen

import (
	"math"
	"slices"

	"skewer/api"
)

// Edges returns numbers around those that matter, and the farthest ones.
func Edges() []int {
	return []int{math.MinInt, math.MinInt32, -65, -64, -2, -1, 0, 1, 2, 3, 4, 5, 6, 7, 8, 9, 10, 11, 12, 13, 63, 64, 65, 255, 256, math.MaxInt32, math.MaxInt}
}

// edge returns one of the edges.
func edge(pick Pick) int {
	return one(pick, Edges())
}

// Great returns a game that is not valid, with very many clauses, kinds, steps and cells, and a position with as many numbers as it needs; the side 0 has men on the cells 1 and 90, and two in the hand.
func Great() (api.Game, api.Pos) {
	const cells, kinds = 100, 300
	steps := slices.Repeat(api.Prog{{Op: api.Slide, N: 0}, {Op: api.Push, N: 1}, {Op: api.Slide, N: 1}}, 200)
	kind := api.Kind{Name: "a", Keep: true, Progs: []api.Prog{steps, steps[:api.MaxSteps], {{Op: api.Take}}}}
	g := api.Game{Kinds: slices.Repeat([]api.Kind{kind}, kinds), Rights: 60}
	g.Board = api.Board{Cells: cells, Next: make([][]int, 2), Turn: []int{1, 0}}
	for c := range cells {
		g.Board.Next[0] = append(g.Board.Next[0], (c+1)%cells)
		g.Board.Next[1] = append(g.Board.Next[1], (c+7)%cells)
	}
	for _, n := range Edges() {
		for _, m := range Edges() {
			g.Clauses = append(g.Clauses, api.Clause{If: n, Kind: m, N: m})
		}
	}
	p := api.Pos{At: make([]int, cells), Hand: [2][]int{make([]int, kinds), make([]int, kinds)}}
	for c := 0; c < cells; c += 2 {
		p.At[c] = c * 6
	}
	p.At[90], p.At[1] = 1, 1
	p.Hand[0][kinds-1], p.Hand[0][0] = 1, 1
	return g, p
}

// OtherGame returns g, as Game returns one, with something changed, by which it may not be valid any more.
func OtherGame(pick Pick, g api.Game) api.Game {
	switch pick(9) {
	case 0:
		g.Rights = edge(pick)
	case 1:
		g.Board.Turn = otherList(pick, g.Board.Turn)
	case 2:
		g.Board.Next = slices.Clone(g.Board.Next)
		d := pick(len(g.Board.Next))
		g.Board.Next[d] = otherList(pick, g.Board.Next[d])
	case 3:
		g.Board.Next = nil
	case 4:
		g.Clauses = append(slices.Clone(g.Clauses), otherClause(pick))
	case 5:
		g.Blocked, g.Endless = edge(pick), edge(pick)
	default:
		g.Kinds = otherKinds(pick, g.Kinds)
	}
	return g
}

// otherKinds returns kinds, or all but the last one, with each program changed.
func otherKinds(pick Pick, kinds []api.Kind) []api.Kind {
	kinds = slices.Clone(kinds)
	for i, k := range kinds {
		kinds[i].Progs = slices.Clone(k.Progs)
		for j, p := range k.Progs {
			kinds[i].Progs[j] = otherProg(pick, p)
		}
	}
	if pick(4) == 0 {
		return kinds[:len(kinds)-1]
	}
	return kinds
}

// otherProg returns steps that need not be a program.
func otherProg(pick Pick, p api.Prog) api.Prog {
	p = slices.Clone(p)
	switch pick(4) {
	case 0:
		p[pick(len(p))].Op = edge(pick)
	case 1:
		p[pick(len(p))].N = edge(pick)
	case 2:
		return nil
	default:
		p = slices.Repeat(p, 1+pick(3))
	}
	return p
}

// otherClause returns a clause that need not be right.
func otherClause(pick Pick) api.Clause {
	return api.Clause{If: edge(pick), Kind: edge(pick), N: edge(pick), Then: edge(pick)}
}

// OtherPos returns p, as Pos returns one, with something changed, by which it may not be valid any more.
func OtherPos(pick Pick, p api.Pos) api.Pos {
	p = Copied(p)
	switch pick(5) {
	case 0:
		p.At = otherList(pick, p.At)
	case 1:
		p.Hand[0] = otherList(pick, p.Hand[0])
	case 2:
		p.Hand[1] = otherList(pick, p.Hand[1])
	case 3:
		p.Rights = edge(pick)
	case 4:
		p.Side = edge(pick)
	}
	return p
}

// otherList returns l with an element changed, left out or added.
func otherList(pick Pick, l []int) []int {
	l = slices.Clone(l)
	switch pick(3) {
	case 0:
		l[pick(len(l))] = edge(pick)
	case 1:
		return l[1:]
	default:
		l = append(l, edge(pick))
	}
	return l
}
