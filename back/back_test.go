package back_test

import (
	"strings"
	"testing"

	"skewer/api"
	"skewer/back"
	"skewer/specimen"
)

// steppers has a kind whose men step and capture forwards.
const steppers = "kind a\nprog go0 empty\nprog go0 enemy take\n"

// keepers has such a kind, too, and one that is kept and does nothing.
const keepers = steppers + "kind b keep\n"

// row returns the game on a row of four cells whose kind a has these programs, with commas between them, and whose kind b has none.
func row(t *testing.T, progs string) api.Game {
	t.Helper()
	lines := strings.ReplaceAll("prog "+progs+"\n", ", ", "\nprog ")
	return specimen.Row(t, 4, "kind a\n"+lines+"kind b\n", "")
}

// checkChain checks the texts of the positions from which a play of n moves leads to a position.
func checkChain(t *testing.T, g api.Game, s string, n int, want string) {
	t.Helper()
	l, e := back.Chain(g, specimen.Parsed(t, g, s), n)
	if got := specimen.Texts(g, l); e != api.OK || got != want {
		t.Errorf("%v, %s, %d moves: %q, %v, not %q", g, s, n, got, e, want)
	}
}

// checkBack checks the texts of the positions before a position.
func checkBack(t *testing.T, g api.Game, s, want string) {
	t.Helper()
	l, e := back.Back(g, specimen.Parsed(t, g, s))
	if got := specimen.Texts(g, l); e != api.OK || got != want {
		t.Errorf("%v, %s: %q, %v, not %q", g, s, got, e, want)
	}
	checkChain(t, g, s, 1, want)
}

// P9.1: the examples of the chapter.
func TestExamples(t *testing.T) {
	g := specimen.Row(t, 3, steppers, "")
	checkBack(t, g, ".a./0/0/0/0", "..a/0/0/0/1 .Aa/0/0/0/1")
	checkBack(t, g, "A../0/0/0/1", "")
}

// P9.1, P9.2, P9.3: men that go are taken back, to cells that were empty then; the steps Empty, Enemy and Friend tell of the position in which they were done.
func TestGoing(t *testing.T) {
	for _, c := range []struct{ progs, p, want string }{
		{"go0", ".A../00/00/0/1", "A.../00/00/0/0"},
		{"go0", ".A../00/00/0/0", ""},
		{"go0", ".A../00/00/1/1", "A.../00/00/1/0"},
		{"go0", "..a./00/00/0/0", "...a/00/00/0/1"},
		{"go0", "AA../00/00/0/1", ""},
		{"go0", "bA../00/00/0/1", ""},
		{"go0", ".B../00/00/0/1", ""},
		{"go0", "..../00/00/0/1", ""},
		{"go0", ".A.A/00/00/0/1", ".AA./00/00/0/0 A..A/00/00/0/0"},
		{"slide0", "..A./00/00/0/1", ".A../00/00/0/0 A.../00/00/0/0"},
		{"slide0", ".bA./00/00/0/1", ""},
		{"slide0", "b.A./00/00/0/1", "bA../00/00/0/0"},
		{"slide0", "a.../00/00/0/0", "...a/00/00/0/1 ..a./00/00/0/1 .a../00/00/0/1"},
		{"slide0 slide1", "A.../00/00/0/1", "..A./00/00/0/0 .A../00/00/0/0 A.../00/00/0/0"},
		{"slide0, go0, slide0 empty", "..A./00/00/0/1", ".A../00/00/0/0 A.../00/00/0/0"},
		{"go0 empty go0", "..A./00/00/0/1", "A.../00/00/0/0"},
		{"go0 empty go0", ".BA./00/00/0/1", ""},
		{"go0 empty go0", ".ba./00/00/0/0", ""},
		{"go0 enemy go0", ".aA./00/00/0/1", "Aa../00/00/0/0"},
		{"go0 enemy go0", ".BA./00/00/0/1", ""},
		{"go0 enemy go0", "..A./00/00/0/1", ""},
		{"go0 enemy go0", "aB../00/00/0/0", ".Ba./00/00/0/1"},
		{"go0 friend go0", ".BA./00/00/0/1", "AB../00/00/0/0"},
		{"go0 friend go0", ".aA./00/00/0/1", ""},
		{"go0 friend go0", "..A./00/00/0/1", ""},
		{"go0 friend go0", "ab../00/00/0/0", ".ba./00/00/0/1"},
		// The man that goes is not on its cell any more.
		{"empty", "A.../00/00/0/1", "A.../00/00/0/0"},
		{"friend", "A.../00/00/0/1", ""},
		{"go0 go1 empty", "A.../00/00/0/1", "A.../00/00/0/0"},
		{"go0 go1 friend", "A.../00/00/0/1", ""},
	} {
		checkBack(t, row(t, c.progs), c.p, c.want)
	}
}

// P9.1, P9.2, P9.3, P9.6: what was captured may have been any man, but only on a cell that is empty then.
func TestTaking(t *testing.T) {
	for _, c := range []struct{ progs, p, want string }{
		{"go0 take", ".A../00/00/0/1", "Aa../00/00/0/0 Ab../00/00/0/0"},
		{"go0 take", "..a./00/00/0/0", "..Aa/00/00/0/1 ..Ba/00/00/0/1"},
		{"go0 take", "BA../00/00/0/1", ""},
		{"go0 take go0", "..A./00/00/0/1", "Aa../00/00/0/0 Ab../00/00/0/0"},
		{"go0 take go0", ".aA./00/00/0/1", ""},
		{"go0 take go0", ".BA./00/00/0/1", ""},
		{"go0 take go0 take", "..A./00/00/0/1", "Aaa./00/00/0/0 Aab./00/00/0/0 Aba./00/00/0/0 Abb./00/00/0/0"},
		{"go0 take take", ".A../00/00/0/1", ""},
		{"take", "A.../00/00/0/1", ""},
		{"go0 take go1", "A.../00/00/0/1", "Aa../00/00/0/0 Ab../00/00/0/0"},
		{"go0 take enemy", ".A../00/00/0/1", ""},
		{"go0 take empty", ".A../00/00/0/1", "Aa../00/00/0/0 Ab../00/00/0/0"},
		{"go0 empty take", ".A../00/00/0/1", ""},
		{"go0 friend take", ".A../00/00/0/1", ""},
		{"slide0 take", "..A./00/00/0/1", ".Aa./00/00/0/0 .Ab./00/00/0/0 A.a./00/00/0/0 A.b./00/00/0/0"},
	} {
		checkBack(t, row(t, c.progs), c.p, c.want)
	}
}

// P9.1, P9.2, P9.3, P9.6: what was captured and is kept comes out of the hand, if it is there.
func TestKeeping(t *testing.T) {
	g := specimen.Row(t, 3, keepers, "")
	for _, c := range []struct{ p, want string }{
		{".A./00/00/0/1", "A../00/00/0/0 Aa./00/00/0/0"},
		{".A./01/00/0/1", "A../01/00/0/0 Aa./01/00/0/0 Ab./00/00/0/0"},
		{".A./08/00/0/1", "A../08/00/0/0 Aa./08/00/0/0 Ab./07/00/0/0"},
		{".A./00/08/0/1", "A../00/08/0/0 Aa./00/08/0/0"},
		{".a./08/00/0/0", "..a/08/00/0/1 .Aa/08/00/0/1"},
		{".a./00/02/0/0", "..a/00/02/0/1 .Aa/00/02/0/1 .Ba/00/01/0/1"},
	} {
		checkBack(t, g, c.p, c.want)
	}
	g.Kinds[0].Progs = []api.Prog{{{Op: api.Go}, {Op: api.Take}, {Op: api.Go}, {Op: api.Take}}}
	checkBack(t, g, "..A/00/00/0/1", "Aaa/00/00/0/0")
	checkBack(t, g, "..A/01/00/0/1", "Aaa/01/00/0/0 Aab/00/00/0/0 Aba/00/00/0/0")
	checkBack(t, g, "..A/02/00/0/1", "Aaa/02/00/0/0 Aab/01/00/0/0 Aba/01/00/0/0 Abb/00/00/0/0")
}

// P9.1, P9.2, P9.3, P9.6: men of a kind that is kept may have been dropped, if the hand was not too full for it.
func TestDrops(t *testing.T) {
	g := specimen.Row(t, 3, keepers, "")
	for _, c := range []struct{ p, want string }{
		{"B../00/00/0/1", ".../01/00/0/0"},
		{"B../07/08/0/1", ".../08/08/0/0"},
		{"B../08/00/0/1", ""},
		{"B../00/00/0/0", ""},
		{"b../00/00/1/0", ".../00/01/1/1"},
		{"b../08/08/0/0", ""},
		{"BbB/03/00/0/1", ".bB/04/00/0/0 Bb./04/00/0/0"},
		{"B.A/00/00/0/1", "..A/01/00/0/0 BA./00/00/0/0 BAa/00/00/0/0"},
	} {
		checkBack(t, g, c.p, c.want)
	}
}

// P9.1, P9.2, P9.3: what was pushed goes back, be it of either side.
func TestPushing(t *testing.T) {
	for _, c := range []struct{ progs, p, want string }{
		{"go0 push0", ".AA./00/00/0/1", "AA../00/00/0/0"},
		{"go0 push0", ".Ab./00/00/0/1", "Ab../00/00/0/0"},
		{"go0 push0", ".aa./00/00/0/0", "..aa/00/00/0/1"},
		{"go0 push0", ".Ba./00/00/0/0", "..Ba/00/00/0/1"},
		{"go0 push0", ".aB./00/00/0/0", ""},
		{"go0 push0", ".A../00/00/0/1", ""},
		{"go0 push0", "bAb./00/00/0/1", ""},
		{"go0 push0", "...A/00/00/0/1", ""},
		// It is pushed to the cell from which the man goes, and is there no more at first.
		{"go0 push1", "bA../00/00/0/1", "Ab../00/00/0/0"},
		{"go0 push0 go1", "A.b./00/00/0/1", "Ab../00/00/0/0"},
		{"go0 push0 go1", "Abb./00/00/0/1", ""},
		{"go0 push0 go0", "..Ab/00/00/0/1", ""},
		{"go0 push0 go0 take", "..A./00/00/0/1", "Aa../00/00/0/0 Ab../00/00/0/0"},
	} {
		checkBack(t, row(t, c.progs), c.p, c.want)
	}
	// What leads from a cell to itself pushes nothing.
	g := row(t, "go0 push1, go0 push0")
	g.Board.Next[1][1], g.Board.Next[0][1] = 1, 1
	checkBack(t, g, ".A../00/00/0/1", "")
	checkBack(t, g, ".Ab./00/00/0/1", "")
}

// P9.1, P9.2, P9.3: a man that becomes another one was of its own kind before.
func TestBecoming(t *testing.T) {
	for _, c := range []struct{ progs, p, want string }{
		{"become0", "A.A./00/00/0/1", "A.A./00/00/0/0"},
		{"become1", "A.A./00/00/0/1", ""},
		{"become1", "B.A./00/00/0/1", "A.A./00/00/0/0"},
		{"go0 become1", ".B../00/00/0/1", "A.../00/00/0/0"},
		{"go0 become1", ".A../00/00/0/1", ""},
		{"go0 become1, go0", ".A../00/00/0/1", "A.../00/00/0/0"},
		{"go0 become1", ".b../00/00/0/0", "..a./00/00/0/1"},
		{"become1 go0 take", ".B../00/00/0/1", "Aa../00/00/0/0 Ab../00/00/0/0"},
		{"slide0 become1", "..B./00/00/0/1", ".A../00/00/0/0 A.../00/00/0/0"},
	} {
		checkBack(t, row(t, c.progs), c.p, c.want)
	}
}

// P9.1, P9.2, P9.3, P9.8: a right that is not there now may have been lost, where a path loses one; one that is there was there.
func TestRights(t *testing.T) {
	for _, c := range []struct{ progs, p, want string }{
		{"go0 need0", ".A../00/00/1/1", "A.../00/00/1/0"},
		{"go0 need0", ".A../00/00/0/1", ""},
		{"go0 lose0", ".A../00/00/0/1", "A.../00/00/0/0 A.../00/00/1/0"},
		{"go0 lose0", ".A../00/00/1/1", ""},
		{"go0 lose0 lose0", ".A../00/00/0/1", "A.../00/00/0/0 A.../00/00/1/0"},
		{"need0 go0 lose0", "..a./00/00/0/0", "...a/00/00/1/1"},
		{"go0 lose0 need0", ".A../00/00/0/1", ""},
		{"go0 lose0 need0", ".A../00/00/1/1", ""},
		{"go0, lose0 go0 take", ".A../00/00/1/1", "A.../00/00/1/0"},
		{"lose0 go0 take", ".A../00/00/0/1", "Aa../00/00/0/0 Aa../00/00/1/0 Ab../00/00/0/0 Ab../00/00/1/0"},
	} {
		checkBack(t, row(t, c.progs), c.p, c.want)
	}
	g := row(t, "go0")
	g.Rights = 4
	g.Kinds[0].Progs = []api.Prog{{{Op: api.Lose, N: 3}, {Op: api.Need, N: 1}, {Op: api.Lose}, {Op: api.Go}}}
	checkBack(t, g, ".A../00/00/6/1", "A.../00/00/6/0 A.../00/00/7/0 A.../00/00/14/0 A.../00/00/15/0")
	checkBack(t, g, ".A../00/00/4/1", "")
	checkBack(t, g, ".A../00/00/7/1", "")
	checkBack(t, g, ".A../00/00/14/1", "")
}

// P9.2, P9.3: with Must, a move without a capture, and a drop, can have been done only where there was no capture.
func TestMust(t *testing.T) {
	free, must := specimen.Row(t, 4, keepers, ""), specimen.Row(t, 4, keepers, "must\n")
	for _, c := range []struct{ p, free, must string }{
		{".A../00/00/0/1", "A.../00/00/0/0 Aa../00/00/0/0", "A.../00/00/0/0 Aa../00/00/0/0"},
		{".AAa/00/00/0/1", "A.Aa/00/00/0/0 AaAa/00/00/0/0", "AaAa/00/00/0/0"},
		{".A.A/00/00/0/1", ".AA./00/00/0/0 .AAa/00/00/0/0 A..A/00/00/0/0 Aa.A/00/00/0/0", ".AA./00/00/0/0 .AAa/00/00/0/0 A..A/00/00/0/0 Aa.A/00/00/0/0"},
		{"BAa./00/00/0/1", ".Aa./01/00/0/0", ""},
		{"BA.a/00/00/0/1", ".A.a/01/00/0/0", ".A.a/01/00/0/0"},
		{".Aa./00/00/0/0", ".A.a/00/00/0/1 .AAa/00/00/0/1", ".A.a/00/00/0/1 .AAa/00/00/0/1"},
	} {
		checkBack(t, free, c.p, c.free)
		checkBack(t, must, c.p, c.must)
	}
}

// P9.7: a position that is over by a clause is before none; clauses that hold in the position itself do not matter.
func TestClauses(t *testing.T) {
	for _, c := range []struct{ clauses, p, want string }{
		{"", ".A.a/00/00/0/1", "A..a/00/00/0/0 Aa.a/00/00/0/0"},
		{"few 0 win\n", ".A.a/00/00/0/1", "A..a/00/00/0/0 Aa.a/00/00/0/0"},
		{"few 1 win\n", ".A.a/00/00/0/1", ""},
		{"few 64 draw\n", ".A.a/00/00/0/1", ""},
		{"holds a 1 win\n", ".A.a/00/00/0/1", "A..a/00/00/0/0"},
		{"holds a 3 win\n", ".A.a/00/00/0/1", ""},
		{"lacks b draw\n", ".A.a/00/00/0/1", ""},
		{"lacks b draw\n", ".A.B/00/00/0/1", "A..B/00/00/0/0 Aa.B/00/00/0/0"},
		{"lacks a draw\n", ".A.B/00/00/0/1", ".A../01/00/0/0 A..B/00/00/0/0 Aa.B/00/00/0/0"},
	} {
		checkBack(t, specimen.Row(t, 4, keepers, c.clauses), c.p, c.want)
	}
}

// P9.1, P9.5: positions from which several moves lead to a position. For no moves, it is its own one, also where it is over, or cannot arise.
func TestChains(t *testing.T) {
	g := specimen.Row(t, 4, steppers, "")
	for n, want := range []string{
		".Aa./0/0/0/0",
		".A.a/0/0/0/1 .AAa/0/0/0/1",
		"A..a/0/0/0/0 A.Aa/0/0/0/0 Aa.a/0/0/0/0 AaAa/0/0/0/0",
		"A.aa/0/0/0/1 AAaa/0/0/0/1",
		"",
		"",
		"",
	} {
		checkChain(t, g, ".Aa./0/0/0/0", n, want)
	}
	checkChain(t, g, "..../0/0/1/1", 0, "..../0/0/1/1")
	checkChain(t, specimen.Row(t, 4, steppers, "few 1 loss\n"), "A..a/0/0/0/1", 0, "A..a/0/0/0/1")
	// Men that wait can have waited for any time; in the end, one of them may have come.
	waiters := specimen.Row(t, 3, "kind a\nprog become0\nprog go0 lose0\n", "")
	checkChain(t, waiters, ".Aa/0/0/1/1", 6, ".Aa/0/0/1/1")
	checkChain(t, waiters, ".Aa/0/0/1/1", 5, ".Aa/0/0/1/0")
	checkChain(t, waiters, ".Aa/0/0/0/1", 1, ".Aa/0/0/0/0 A.a/0/0/0/0 A.a/0/0/1/0")
	checkChain(t, waiters, ".Aa/0/0/0/1", 2, ".Aa/0/0/0/1 A.a/0/0/0/1 A.a/0/0/1/1")
}

// P9.1: there is no chain of less than 0 moves, or of more than 6, from any position.
func TestNumbers(t *testing.T) {
	g := specimen.Row(t, 3, steppers, "")
	many := great(t, oneMore)
	for _, n := range append([]int{-1, 7, 8}, specimen.Edges()...) {
		want := api.ErrArg
		if n >= 0 && n <= 6 {
			want = api.OK
		}
		for _, s := range []string{".A./0/0/0/1", ".../0/0/1/0"} {
			if l, e := back.Chain(g, specimen.Parsed(t, g, s), n); e != want || e != api.OK && len(l) > 0 {
				t.Errorf("%s, %d moves: %v, %v", s, n, l, e)
			}
		}
		if want == api.OK && n > 0 {
			want = api.ErrBig
		}
		if l, e := back.Chain(many, specimen.Parsed(t, many, come), n); e != want || e != api.OK && len(l) > 0 {
			t.Errorf("%d moves: %d positions, %v", n, len(l), e)
		}
	}
}
