package play_test

import (
	"math"
	"slices"
	"strings"
	"testing"

	"skewer/api"
	"skewer/board"
	"skewer/game"
	"skewer/play"
	"skewer/pos"
	"skewer/specimen"
)

// steppers has a kind whose men step and capture forwards.
const steppers = "kind a\nprog go0 empty\nprog go0 enemy take\n"

// mixed has such a kind, too, and one whose men slide to capture, step backwards, and go into the hand.
const mixed = steppers + "kind b keep\nprog slide0 enemy take\nprog go1 empty\n"

// checkMoves checks the texts of the moves from a position.
func checkMoves(t *testing.T, g api.Game, s, want string) {
	t.Helper()
	if got := specimen.Texts(g, play.Moves(g, specimen.Parsed(t, g, s))); got != want {
		t.Errorf("%s: moves %q, not %q", s, got, want)
	}
}

// checkStatus checks the result of a position that is over, or, if it is 0, that the position is not over.
func checkStatus(t *testing.T, g api.Game, s string, want int) {
	t.Helper()
	p := specimen.Parsed(t, g, s)
	out, over := play.Status(g, p)
	if out != want || over != (want != 0) {
		t.Errorf("%s: %d, %v, not %d", s, out, over, want)
	}
	if moves := play.Moves(g, p); over != (len(moves) == 0) {
		t.Errorf("%s: over: %v, moves %q", s, over, specimen.Texts(g, moves))
	}
}

// P6.1: the examples of the chapter.
func TestExamples(t *testing.T) {
	g := specimen.Row(t, 3, steppers, "")
	checkMoves(t, g, "A.a/0/0/0/0", ".Aa/0/0/0/1")
	checkMoves(t, g, ".Aa/0/0/0/1", ".a./0/0/0/0")
	checkMoves(t, g, ".a./0/0/0/0", "")
	checkStatus(t, g, "A.a/0/0/0/0", 0)
	checkStatus(t, g, ".Aa/0/0/0/1", 0)
	checkStatus(t, g, ".a./0/0/0/0", api.Loss)
	g = specimen.Row(t, 3, steppers, "few 0 win\n")
	checkStatus(t, g, ".a./0/0/0/0", api.Win)
	checkMoves(t, g, ".a./0/0/0/0", "")
}

// P6.1, P6.2: the moves of several men with several programs, and drops, in order.
func TestMovesOf(t *testing.T) {
	g := specimen.Row(t, 4, mixed, "")
	for _, c := range []struct{ p, want string }{
		{"A..A/00/00/0/0", ".A.A/00/00/0/1"},
		{"A.A./00/00/1/0", ".AA./00/00/1/1 A..A/00/00/1/1"},
		{"AaAb/00/00/0/0", ".AAb/00/00/0/1 Aa.A/01/00/0/1"},
		{"B..a/00/00/0/0", "...B/00/00/0/1"},
		{"B.ba/00/00/0/0", "..Ba/01/00/0/1"},
		{".B.a/00/00/0/0", "...B/00/00/0/1 B..a/00/00/0/1"},
		{".b.A/00/00/0/1", "..bA/00/00/0/0"},
		{".A.b/00/00/0/1", ".b../00/00/0/0"},
		{"aA../00/00/0/0", "a.A./00/00/0/1"},
		{"aA../00/00/0/1", ""},
		{"..../00/00/0/0", ""},
		{"..../00/08/0/0", ""},
		{"a.../02/03/1/0", "a..B/01/03/1/1 a.B./01/03/1/1 aB../01/03/1/1"},
		{"a.AA/02/03/1/1", "abAA/02/02/1/0"},
		{"Ab../07/00/0/0", ".A../08/00/0/1 Ab.B/06/00/0/1 AbB./06/00/0/1"},
		{"Ab../08/00/0/0", "Ab.B/07/00/0/1 AbB./07/00/0/1"},
	} {
		checkMoves(t, g, c.p, c.want)
	}
}

// P6.1: moves that lead to the same position are one move: by two programs of a man, by several men, and by two ways of a program.
func TestOneMove(t *testing.T) {
	g := specimen.Row(t, 4, "kind a\nprog go0 empty\nprog slide0 empty\nprog go0 empty\n", "")
	checkMoves(t, g, ".A../0/0/0/0", "...A/0/0/0/1 ..A./0/0/0/1")
	g = specimen.Row(t, 3, "kind a\nprog become0\n", "")
	checkMoves(t, g, "AAA/0/0/1/0", "AAA/0/0/1/1")
	checkMoves(t, g, "aaA/0/0/1/1", "aaA/0/0/1/0")
	g = specimen.Row(t, 3, "kind a\nprog slide0 slide1\n", "")
	checkMoves(t, g, "A../0/0/0/0", ".A./0/0/0/1 A../0/0/0/1")
}

// P6.4: with Must, where one of the outcomes captures, moves without a capture, and drops, are not there.
func TestCompulsion(t *testing.T) {
	free, must := specimen.Row(t, 4, mixed, ""), specimen.Row(t, 4, mixed, "must\n")
	for _, c := range []struct{ p, free, must string }{
		{"A.A./00/00/0/0", ".AA./00/00/0/1 A..A/00/00/0/1", ".AA./00/00/0/1 A..A/00/00/0/1"},
		{"A.Aa/00/00/0/0", ".AAa/00/00/0/1 A..A/00/00/0/1", "A..A/00/00/0/1"},
		{".B.a/00/00/0/0", "...B/00/00/0/1 B..a/00/00/0/1", "...B/00/00/0/1"},
		{".a.B/00/00/0/1", "a..B/00/00/0/0", "a..B/00/00/0/0"},
		{"A.ab/00/00/0/0", ".Aab/00/00/0/1", ".Aab/00/00/0/1"},
		{"A.Ab/00/00/0/1", "A.b./00/00/0/0", "A.b./00/00/0/0"},
		{"AaBb/00/00/0/0", ".ABb/00/00/0/1 Aa.B/01/00/0/1", ".ABb/00/00/0/1 Aa.B/01/00/0/1"},
		{"A..b/01/00/0/0", ".A.b/01/00/0/1 A.Bb/00/00/0/1 AB.b/00/00/0/1", ".A.b/01/00/0/1 A.Bb/00/00/0/1 AB.b/00/00/0/1"},
		{"Ab../01/00/0/0", ".A../02/00/0/1 Ab.B/00/00/0/1 AbB./00/00/0/1", ".A../02/00/0/1"},
		{"Ab../08/00/0/0", "Ab.B/07/00/0/1 AbB./07/00/0/1", "Ab.B/07/00/0/1 AbB./07/00/0/1"},
		{"a.../00/00/0/0", "", ""},
	} {
		checkMoves(t, free, c.p, c.free)
		checkMoves(t, must, c.p, c.must)
	}
}

// P6.1, P6.3: each condition of a clause, where it holds and where it does not.
func TestConditions(t *testing.T) {
	for _, c := range []struct {
		clause, p string
		want      int
	}{
		{"lacks b win\n", "A..a/00/00/0/0", api.Win},
		{"lacks b win\n", "A.ba/08/00/0/0", api.Win},
		{"lacks b win\n", "A.Ba/00/00/0/0", 0},
		{"lacks b win\n", "A.Ba/00/08/0/1", api.Win},
		{"lacks b win\n", "A.ba/00/00/0/1", 0},
		{"lacks a draw\n", ".Bba/00/00/0/0", api.Draw},
		{"lacks a draw\n", "ABba/00/00/0/0", 0},
		{"holds a 3 win\n", "A..a/00/00/0/0", api.Win},
		{"holds a 3 win\n", "A..A/00/00/0/0", 0},
		{"holds a 3 win\n", "A..b/00/00/0/0", 0},
		{"holds a 3 win\n", "A.a./00/00/0/0", 0},
		{"holds a 3 win\n", "a..A/00/00/0/1", api.Win},
		{"holds a 3 win\n", "A..a/00/00/0/1", 0},
		{"holds b 0 draw\n", "b.A./00/00/0/0", api.Draw},
		{"holds b 0 draw\n", "B.A./00/00/0/0", 0},
		{"holds b 0 draw\n", "..A./00/00/0/0", 0},
		{"few 0 draw\n", "...b/08/00/0/0", api.Draw},
		{"few 0 draw\n", "B..a/08/00/0/0", 0},
		{"few 2 draw\n", "AB.b/00/00/0/0", api.Draw},
		{"few 2 draw\n", "A.BA/00/00/0/0", 0},
		{"few 2 draw\n", "ab.b/00/00/0/1", 0},
		{"few 2 draw\n", "aB.b/00/00/0/1", api.Draw},
		{"few 64 win\n", "ABA./00/00/0/0", api.Win},
		{"few 64 loss\n", "ABA./00/00/0/0", api.Loss},
	} {
		checkStatus(t, specimen.Row(t, 4, mixed, c.clause), c.p, c.want)
	}
}

// P6.1, P6.5: the first clause that holds gives the result, whether or not there would be a move.
func TestFirstClause(t *testing.T) {
	three := []string{"holds a 2 win\n", "lacks a draw\n", "few 1 loss\n"}
	for _, c := range []struct {
		order, p string
		want     int
	}{
		{"012", "..a/0/0/0/0", api.Win},
		{"021", "..a/0/0/0/0", api.Win},
		{"120", "..a/0/0/0/0", api.Draw},
		{"210", "..a/0/0/0/0", api.Loss},
		{"012", "A.a/0/0/0/0", api.Win},
		{"120", "A.a/0/0/0/0", api.Loss},
		{"012", ".a./0/0/0/0", api.Draw},
		{"012", "Aa./0/0/0/0", api.Loss},
		{"012", "AA./0/0/0/0", 0},
		{"111112", "Aa./0/0/0/0", api.Loss},
		{"111110", "A.a/0/0/0/0", api.Win},
		{"111110", "Aa./0/0/0/0", 0},
	} {
		clauses := ""
		for _, i := range c.order {
			clauses += three[i-'0']
		}
		checkStatus(t, specimen.Row(t, 3, steppers, clauses), c.p, c.want)
	}
}

// P6.1, P6.3: without moves, the result is Blocked if no clause holds; without men, too.
func TestBlocked(t *testing.T) {
	for _, clauses := range []string{"", "must\n", "holds a 0 win\nholds a 0 draw\nholds a 0 loss\n"} {
		g := specimen.Row(t, 3, steppers, clauses)
		for g.Blocked = range api.Loss + 1 {
			// The number 0 is no result.
			if g.Blocked == 0 {
				continue
			}
			checkStatus(t, g, ".AA/0/0/0/0", g.Blocked)
			checkStatus(t, g, "..a/0/0/0/0", g.Blocked)
			checkStatus(t, g, ".aa/0/0/0/0", g.Blocked)
			checkStatus(t, g, "A.a/0/0/0/0", 0)
		}
	}
}

// P6.1: what is no move is not legal, be it a position or not.
func TestLegal(t *testing.T) {
	g := specimen.Row(t, 4, mixed, "must\n")
	p := specimen.Parsed(t, g, "Ab.A/01/00/1/0")
	move := specimen.Parsed(t, g, ".A.A/02/00/1/1")
	if !play.Legal(g, p, move) {
		t.Error("the capture is not legal")
	}
	for _, s := range []string{"Ab.A/01/00/1/0", "Ab.A/01/00/1/1", ".A.A/02/00/1/0", ".A.A/02/00/0/1", ".A.A/01/00/1/1", ".A.A/02/01/1/1", "AbBA/00/00/1/1", "..../00/00/0/0"} {
		if play.Legal(g, p, specimen.Parsed(t, g, s)) || play.Legal(g, move, specimen.Parsed(t, g, s)) {
			t.Errorf("%s is legal", s)
		}
	}
	for n, change := range []func(*api.Pos){
		func(q *api.Pos) { *q = api.Pos{} },
		func(q *api.Pos) { q.At = append(q.At, 0) },
		func(q *api.Pos) { q.At = q.At[:3] },
		func(q *api.Pos) { q.At[0] = math.MinInt },
		func(q *api.Pos) { q.At[1] += 256 },
		func(q *api.Pos) { q.Hand[0] = q.Hand[0][1:] },
		func(q *api.Pos) { q.Hand[1] = append(q.Hand[1], 0) },
		func(q *api.Pos) { q.Hand[1] = nil },
		func(q *api.Pos) { q.Rights += 256 },
		func(q *api.Pos) { q.Rights = -1 },
		func(q *api.Pos) { q.Side = 3 },
		func(q *api.Pos) { q.Side = -1 },
	} {
		q := specimen.Copied(move)
		change(&q)
		if play.Legal(g, p, q) {
			t.Errorf("case %d: %v is legal", n, q)
		}
	}
	g.Clauses = []api.Clause{{If: api.Few, N: 2, Then: api.Win}}
	if play.Legal(g, p, move) {
		t.Error("a move is legal where a clause holds")
	}
}

// checkWalk checks the texts of the positions of a play.
func checkWalk(t *testing.T, g api.Game, s string, picks []int, want string) {
	t.Helper()
	if got := specimen.Texts(g, play.Walk(g, specimen.Parsed(t, g, s), picks)); got != want {
		t.Errorf("%s, %v: %q, not %q", s, picks, got, want)
	}
}

// P6.1, P6.6: picks are taken modulo the number of moves, and the remainder is not negative.
func TestPicks(t *testing.T) {
	g := specimen.Row(t, 6, steppers, "")
	const p = "A.A.A./0/0/0/0"
	moves := []string{".AA.A./0/0/0/1", "A..AA./0/0/0/1", "A.A..A/0/0/0/1"}
	for _, c := range []struct{ pick, want int }{
		{0, 0}, {1, 1}, {2, 2}, {3, 0}, {4, 1}, {5, 2}, {-1, 2}, {-2, 1}, {-3, 0}, {-4, 2}, {-6, 0}, {math.MaxInt, 1}, {math.MinInt, 1}, {math.MinInt + 1, 2},
	} {
		// The side 1 has no moves then: further picks are not needed.
		checkWalk(t, g, p, []int{c.pick}, p+" "+moves[c.want])
		checkWalk(t, g, p, []int{c.pick, 0, -1, 7}, p+" "+moves[c.want])
	}
}

// P6.6: a play ends where picks do, or where it is over, by a clause, too.
func TestPlays(t *testing.T) {
	g := specimen.Row(t, 4, steppers, "")
	const whole = "A..a/0/0/0/0 .A.a/0/0/0/1 .Aa./0/0/0/0 ..A./0/0/0/1"
	positions := strings.Split(whole, " ")
	for n := range 6 {
		checkWalk(t, g, positions[0], make([]int, n), strings.Join(positions[:min(n+1, 4)], " "))
	}
	checkWalk(t, g, positions[0], nil, positions[0])
	checkWalk(t, g, positions[3], []int{1, 2, 3}, positions[3])
	g = specimen.Row(t, 4, steppers, "holds a 2 win\n")
	checkWalk(t, g, positions[0], []int{1, 2, 3}, strings.Join(positions[:3], " "))
	checkWalk(t, g, positions[2], []int{1, 2, 3}, positions[2])
	g = specimen.Row(t, 2, "kind a\nprog become0\n", "")
	if l := play.Walk(g, specimen.Parsed(t, g, "Aa/0/0/1/0"), make([]int, 999)); len(l) != 1000 || specimen.Texts(g, l[998:]) != "Aa/0/0/1/0 Aa/0/0/1/1" {
		t.Errorf("a play without end: %d positions", len(l))
	}
}

// P6.1: the greatest game and position: all men, programs, hands and clauses count.
func TestLargest(t *testing.T) {
	b, e := board.Grid(8, 8)
	if e != api.OK {
		t.Fatal(e)
	}
	g := api.Game{Board: b, Rights: api.MaxRights, Must: true, Blocked: api.Loss, Endless: api.Draw}
	walk := slices.Repeat(api.Prog{{Op: api.Slide, N: 4}, {Op: api.Slide}}, 4)
	last := api.Prog{{Op: api.Need, N: 3}, {Op: api.Go, N: 7}, {Op: api.Enemy}, {Op: api.Take}}
	for i := range api.MaxKinds {
		progs := slices.Repeat([]api.Prog{walk}, api.MaxProgs)
		progs[api.MaxProgs-1] = last
		g.Kinds = append(g.Kinds, api.Kind{Name: strings.Repeat("z", i+1), Keep: true, Progs: progs})
		g.Clauses = append(g.Clauses, api.Clause{If: api.Holds, Kind: i, N: 63, Then: api.Draw})
	}
	p := api.Pos{At: slices.Repeat([]int{11}, 64), Hand: [2][]int{slices.Repeat([]int{7}, 6), slices.Repeat([]int{8}, 6)}, Rights: 15}
	p.At[54], p.At[0] = 12, 0
	if !game.Valid(g) || !pos.Valid(g, p) {
		t.Fatal("not valid")
	}
	taken := specimen.Copied(p)
	taken.At[63], taken.At[54], taken.Hand[0][5], taken.Side = 0, 11, 8, 1
	if l := play.Moves(g, p); len(l) != 1 || pos.Compare(l[0], taken) != 0 {
		t.Errorf("%v", l)
	}
	g.Must = false
	// Each man can come back to its cell, which is one move, and one man can go to the cell 0, where 6 kinds can be dropped; there is one capture.
	if l := play.Moves(g, p); len(l) != 1+1+6+1 {
		t.Errorf("%v", l)
	}
	p.At[63] = 12
	if out, over := play.Status(g, p); !over || out != api.Draw {
		t.Errorf("%d, %v", out, over)
	}
	g.Clauses = []api.Clause{{If: api.Few, N: api.MaxCells, Then: api.Win}}
	p.At = slices.Repeat([]int{11}, 64)
	if out, over := play.Status(g, p); !over || out != api.Win {
		t.Errorf("%d, %v", out, over)
	}
	g.Clauses[0].N--
	if out, over := play.Status(g, p); over || out != 0 {
		t.Errorf("%d, %v", out, over)
	}
}

// P2: results share no memory with the arguments, nor one part of them with another one.
func TestMemory(t *testing.T) {
	g := specimen.Row(t, 4, mixed, "")
	p := specimen.Parsed(t, g, "A.../02/03/0/0")
	lists := [][]int{p.At, p.Hand[0], p.Hand[1]}
	for _, l := range [][]api.Pos{play.Moves(g, p), play.Moves(g, p), play.Walk(g, p, nil), play.Walk(g, p, []int{1, 2})} {
		for _, q := range l {
			lists = append(lists, q.At, q.Hand[0], q.Hand[1])
		}
	}
	if len(lists) != 3*(1+4+4+1+3) {
		t.Fatal("not all results:", lists)
	}
	specimen.CheckApart(t, lists)
}
