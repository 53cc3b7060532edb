package specimen

import (
	"slices"
	"strconv"

	"skewer/api"
	"skewer/game"
)

// Row returns the game on a row of cells, whose direction 0 leads to the right and 1 to the left, with one right, these kinds, and what follows in the text up to the clauses. Blocked is Loss, and Endless Draw. If there is no such game, the test fails.
func Row(t Test, cells int, kinds, clauses string) api.Game {
	t.Helper()
	right, left := "dir", "dir -1"
	for c := 1; c < cells; c++ {
		right += " " + strconv.Itoa(c)
		left += " " + strconv.Itoa(c-1)
	}
	board := "board " + strconv.Itoa(cells) + " 2\n" + right + " -1\n" + left + "\nturn 1 0\n"
	g, e := game.Parse(board + kinds + "rights 1\n" + clauses + "blocked loss\nendless draw\n")
	if e != api.OK {
		t.Fatalf("%d cells, %q, %q: %v", cells, kinds, clauses, e)
	}
	return g
}

// Still returns the game with so many cells, from which no steps lead, with a kind for each element of keep, which tells whether it is kept, and with so many rights. It is valid if these numbers are. Blocked is Loss, and Endless Draw.
func Still(cells, rights int, keep ...bool) api.Game {
	g := api.Game{Rights: rights, Blocked: api.Loss, Endless: api.Draw}
	g.Board = api.Board{Cells: cells, Next: [][]int{slices.Repeat([]int{-1}, cells)}, Turn: []int{0}}
	for i, k := range keep {
		g.Kinds = append(g.Kinds, api.Kind{Name: string(rune('a' + i)), Keep: k})
	}
	return g
}
