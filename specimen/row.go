package specimen

import (
	"strconv"

	"skewer/api"
	"skewer/game"
)

// Row returns the game on a row of cells, whose direction 0 leads to the right and 1 to the left, with one right, these kinds, and what follows in the text up to the clauses. Blocked is Loss, and Endless Draw. If there is no such game, the test fails.
func Row(t Test, cells int, kinds, clauses string) api.Game {
	t.Helper()
	right, left := "dir", "dir -1"
	for c := 1; c < cells; c++ {
		right += " " + strconv.Itoa(c)
		left += " " + strconv.Itoa(c-1)
	}
	board := "board " + strconv.Itoa(cells) + " 2\n" + right + " -1\n" + left + "\nturn 1 0\n"
	g, e := game.Parse(board + kinds + "rights 1\n" + clauses + "blocked loss\nendless draw\n")
	if e != api.OK {
		t.Fatalf("%d cells, %q, %q: %v", cells, kinds, clauses, e)
	}
	return g
}
