package solve_test

import (
	"math"
	"slices"
	"testing"

	"skewer/api"
	"skewer/game"
	"skewer/pos"
	"skewer/solve"
	"skewer/specimen"
)

// steppers has a kind whose men step and capture forwards.
const steppers = "kind a\nprog go0 empty\nprog go0 enemy take\n"

// goers has a kind whose men go one or two cells forwards, and one whose men can only wait.
const goers = "kind a\nprog go0 empty\nprog go0 empty go0 empty\nkind b\nprog become1\n"

// waiters has these kinds, but the men of the first one can wait, too.
const waiters = "kind a\nprog go0 empty\nprog go0 empty go0 empty\nprog become0\nkind b\nprog become1\n"

// listed returns the list of what can be reached from the position with the text s, and the index of this one.
func listed(t *testing.T, g api.Game, s string) ([]api.Pos, int) {
	t.Helper()
	p := specimen.Parsed(t, g, s)
	l, e := solve.All(g, p)
	i := pos.Find(l, p)
	if e != api.OK || i < 0 {
		t.Fatalf("%s: %v, %v", s, specimen.Texts(g, l), e)
	}
	return l, i
}

// solved returns the values of a list that is closed.
func solved(t *testing.T, g api.Game, l []api.Pos) []api.Result {
	t.Helper()
	v, e := solve.Values(g, l)
	if e != api.OK || len(v) != len(l) {
		t.Fatalf("%s: values %v, %v", specimen.Texts(g, l), v, e)
	}
	return v
}

func win(n int) api.Result  { return api.Result{Out: api.Win, N: n} }
func loss(n int) api.Result { return api.Result{Out: api.Loss, N: n} }

// draw is the value of a position that nobody can win.
var draw = api.Result{Out: api.Draw}

// P7.1: the example of the chapter.
func TestExample(t *testing.T) {
	g, e := game.Parse("board 3 1\ndir 1 2 -1\nturn 0\nkind a\nprog go0\nrights 0\nblocked loss\nendless draw\n")
	if e != api.OK {
		t.Fatal(e)
	}
	l, i := listed(t, g, "A.a/0/0/0/0")
	if got := specimen.Texts(g, l); got != ".Aa/0/0/0/1 A.a/0/0/0/0" || i != 1 {
		t.Error("All:", got)
	}
	if n, e := solve.Next(g, l); e != api.OK || len(n) != 2 || len(n[0]) != 0 || !slices.Equal(n[1], []int{0}) {
		t.Error("Next:", n, e)
	}
	if v := solved(t, g, l); !slices.Equal(v, []api.Result{loss(0), win(1)}) {
		t.Error("Values:", v)
	}
	if f, e := solve.Final(g, l); e != api.OK || !slices.Equal(f, []int{api.Loss, api.Win}) {
		t.Error("Final:", f, e)
	}
	if k, e := solve.Best(g, l, solved(t, g, l), 1); e != api.OK || k != 0 {
		t.Error("Best:", k, e)
	}
	if k, e := solve.Right(g, l, solved(t, g, l)); e != api.OK || k != -1 {
		t.Error("Right:", k, e)
	}
}

// P7.2: lists of what can be reached: by any number of moves, from a position that is over, from one that comes back, and by drops.
func TestAllOf(t *testing.T) {
	const keepers = "kind a keep\nprog go0 enemy take\n"
	const losers = "kind a\nprog become0\nprog lose0 become0\n"
	for _, c := range []struct{ kinds, clauses, p, want string }{
		{steppers, "", "A.a/0/0/0/0", ".Aa/0/0/0/1 .a./0/0/0/0 A.a/0/0/0/0"},
		{steppers, "", ".Aa/0/0/0/1", ".Aa/0/0/0/1 .a./0/0/0/0"},
		{steppers, "", ".a./0/0/0/0", ".a./0/0/0/0"},
		{steppers, "", ".../0/0/1/1", ".../0/0/1/1"},
		{steppers, "few 1 draw\n", "A.a/0/0/0/0", "A.a/0/0/0/0"},
		{steppers, "holds a 1 win\n", "A.a/0/0/0/0", ".Aa/0/0/0/1 A.a/0/0/0/0"},
		{losers, "", "A.a/0/0/1/1", "A.a/0/0/0/0 A.a/0/0/0/1 A.a/0/0/1/0 A.a/0/0/1/1"},
		{losers, "", "A.a/0/0/0/1", "A.a/0/0/0/0 A.a/0/0/0/1"},
		{losers, "", "A../0/0/1/0", "A../0/0/0/1 A../0/0/1/0 A../0/0/1/1"},
		{keepers, "", "Aa./0/0/0/0", ".A./1/0/0/1 Aa./0/0/0/0"},
		{keepers, "", ".A./1/0/0/0", ".A./1/0/0/0 .AA/0/0/0/1 AA./0/0/0/1"},
		{keepers, "", "..a/1/0/0/0", "..a/1/0/0/0 .Aa/0/0/0/1 .a./0/1/0/0 A.a/0/0/0/1"},
	} {
		g := specimen.Row(t, 3, c.kinds, c.clauses)
		l, _ := listed(t, g, c.p)
		if got := specimen.Texts(g, l); got != c.want {
			t.Errorf("%q, %q, %s: %q, not %q", c.kinds, c.clauses, c.p, got, c.want)
		}
	}
}

// rings returns the game on three rings of 5 cells, whose men go anywhere on their ring, or wait, or lose one of 4 rights, and have to capture where they can.
func rings(t *testing.T) api.Game {
	t.Helper()
	g, e := game.Parse(`board 15 1
dir 1 2 3 4 0 6 7 8 9 5 11 12 13 14 10
turn 0
kind a
prog slide0
prog become0
prog lose0
prog lose1
prog lose2
prog lose3
prog slide0 enemy take
rights 4
must
blocked loss
endless draw
`)
	if e != api.OK {
		t.Fatal(e)
	}
	return g
}

// P7.2, P7.8: a list has up to 4000 positions, and no more.
func TestLimit(t *testing.T) {
	g := rings(t)
	// From here, each of the 3 men can be on any of 5 cells, with 16 sets of rights and 2 turns, which makes 4000 positions.
	l, _ := listed(t, g, "A....A....a..../0/0/15/0")
	if len(l) != api.MaxNodes {
		t.Fatalf("%d positions", len(l))
	}
	if v := solved(t, g, l); slices.ContainsFunc(v, func(r api.Result) bool { return r != draw }) {
		t.Errorf("values %v", v)
	}
	// Here, only a capture is possible, after which the men are as they were above.
	p := specimen.Parsed(t, g, "Aa...A....a..../0/0/15/0")
	if m, e := solve.All(g, p); e != api.ErrBig || len(m) != 0 {
		t.Errorf("%d positions, %v", len(m), e)
	}
	checkRefused(t, g, pos.Sort(append(l, p)))
	// And what can be reached from there goes on to be a list without one of the others.
	if m, _ := listed(t, g, ".A...A....a..../0/0/15/1"); len(m) != len(l) {
		t.Errorf("%d positions", len(m))
	}
}

// P7.3: the indices of moves, in order, for positions with many moves and without moves, and for a list of several plays.
func TestNextOf(t *testing.T) {
	g := specimen.Row(t, 6, waiters, "")
	var l []api.Pos
	for _, s := range []string{"..A..b/00/00/0/0", "..A..b/00/00/0/1", "....Ab/00/00/0/0", "A...../00/00/0/1"} {
		more, _ := listed(t, g, s)
		l = pos.Sort(append(l, more...))
	}
	const want = "....Ab/00/00/0/0 ....Ab/00/00/0/1 ...A.b/00/00/0/0 ...A.b/00/00/0/1 ..A..b/00/00/0/0 ..A..b/00/00/0/1 A...../00/00/0/1"
	if got := specimen.Texts(g, l); got != want {
		t.Fatalf("%q", got)
	}
	n, e := solve.Next(g, l)
	if e != api.OK || !slices.EqualFunc(n, [][]int{{1}, {0}, {1, 3}, {2}, {1, 3, 5}, {4}, nil}, slices.Equal) {
		t.Error(n, e)
	}
	if n, e := solve.Next(g, nil); e != api.OK || len(n) != 0 {
		t.Error("no positions:", n, e)
	}
}

// P7.1: values of positions: at the end, where there is one move after the other, and where there is a choice.
func TestValuesOf(t *testing.T) {
	const race = "holds a 4 loss\n"
	for _, c := range []struct {
		cells             int
		kinds, clauses, p string
		want              api.Result
	}{
		{3, steppers, "", ".a./0/0/0/0", loss(0)},
		{3, steppers, "", ".Aa/0/0/0/1", win(1)},
		{3, steppers, "", "A.a/0/0/0/0", loss(2)},
		{3, steppers, "few 0 win\n", ".a./0/0/0/0", win(0)},
		{3, steppers, "few 0 win\n", ".Aa/0/0/0/1", loss(1)},
		{3, steppers, "few 0 win\n", "A.a/0/0/0/0", win(2)},
		{3, steppers, "few 0 draw\n", ".a./0/0/0/0", draw},
		{3, steppers, "few 0 draw\n", "A.a/0/0/0/0", draw},
		{6, steppers, "", "A....a/0/0/0/0", win(5)},
		{6, steppers, "", "A....a/0/0/0/1", win(5)},
		{7, steppers, "", "A.....a/0/0/0/0", loss(6)},
		// Who wins goes for the first end, and who waits too long does not lose by it.
		{6, waiters, race, "A....b/00/00/0/0", win(3)},
		{6, waiters, race, "A....b/00/00/0/1", loss(4)},
		{6, waiters, race, ".A...b/00/00/0/0", win(3)},
		{6, waiters, race, "..A..b/00/00/0/0", win(1)},
		{6, waiters, race, "..A..b/00/00/0/1", loss(2)},
		{6, waiters, race, "....Ab/00/00/0/0", win(1)},
		{6, waiters, race, "....Ab/00/00/0/1", loss(0)},
		// Who loses goes for the last end: here, by two moves of one cell.
		{9, goers, "", "..a.A..../00/00/0/1", loss(4)},
		{9, goers, "", "..a.A..../00/00/0/0", win(5)},
		{9, goers, "", "....a.A../00/00/0/0", loss(4)},
		// A win is better than a draw, and this better than a loss, be it at an end or without one.
		{4, goers, "holds a 1 draw\nholds a 2 loss\n", "A..b/00/00/0/0", win(1)},
		{4, goers, "holds a 1 win\nholds a 2 draw\n", "A..b/00/00/0/0", draw},
		{4, goers, "holds a 1 win\nholds a 2 win\n", "A..b/00/00/0/0", loss(1)},
		{4, goers, "holds a 2 win\n", ".A.b/00/00/0/0", loss(1)},
		{4, waiters, "holds a 2 win\n", ".A.b/00/00/0/0", draw},
		{4, waiters, "holds a 2 win\n", ".A.b/00/00/0/1", draw},
		{4, waiters, "holds a 2 loss\n", ".A.b/00/00/0/0", win(1)},
	} {
		g := specimen.Row(t, c.cells, c.kinds, c.clauses)
		l, i := listed(t, g, c.p)
		if v := solved(t, g, l); v[i] != c.want {
			t.Errorf("%q, %q, %s: %v, not %v", c.kinds, c.clauses, c.p, v[i], c.want)
		}
	}
}

// P7.1, P7.7: final results, if the side 0 wins a play that does not end, if nobody does, and if it loses it.
func TestFinalOf(t *testing.T) {
	const w, d, l = api.Win, api.Draw, api.Loss
	for _, c := range []struct {
		cells      int
		clauses, p string
		want       [3]int
	}{
		// Both can only wait.
		{2, "", "Bb/00/00/0/0", [3]int{w, d, l}},
		{2, "", "Bb/00/00/0/1", [3]int{l, d, w}},
		// One of them can go to a drawn end, if it likes that better.
		{3, "holds a 1 draw\n", "A.b/00/00/0/0", [3]int{w, d, d}},
		{3, "holds a 1 draw\n", "A.b/00/00/0/1", [3]int{l, d, d}},
		{3, "holds a 1 draw\n", "B.a/00/00/0/0", [3]int{d, d, l}},
		{3, "holds a 1 draw\n", "B.a/00/00/0/1", [3]int{d, d, w}},
		{3, "holds a 1 draw\n", "Ba./00/00/0/0", [3]int{d, d, d}},
		{3, "holds a 1 draw\n", ".Ab/00/00/0/1", [3]int{d, d, d}},
		// One of them can win, whatever a play without an end is.
		{3, "holds a 1 loss\n", "A.b/00/00/0/0", [3]int{w, w, w}},
		{3, "holds a 1 loss\n", "A.b/00/00/0/1", [3]int{l, l, l}},
		{3, "holds a 1 loss\n", "B.a/00/00/0/0", [3]int{l, l, l}},
		{3, "holds a 1 loss\n", "B.a/00/00/0/1", [3]int{w, w, w}},
		{3, "holds a 1 loss\n", ".Ab/00/00/0/1", [3]int{l, l, l}},
		// One of them can lose, but need not.
		{3, "holds a 1 win\n", "A.b/00/00/0/0", [3]int{w, d, l}},
		{3, "holds a 1 win\n", "A.b/00/00/0/1", [3]int{l, d, w}},
		{3, "holds a 1 win\n", "B.a/00/00/0/0", [3]int{w, d, l}},
		{3, "holds a 1 win\n", "B.a/00/00/0/1", [3]int{l, d, w}},
		{3, "holds a 1 win\n", ".Ab/00/00/0/1", [3]int{w, w, w}},
	} {
		g := specimen.Row(t, c.cells, waiters, c.clauses)
		list, i := listed(t, g, c.p)
		for n, want := range c.want {
			g.Endless = api.Win + n
			if f, e := solve.Final(g, list); e != api.OK || len(f) != len(list) || f[i] != want {
				t.Errorf("%q, %s, endless %d: %v, %v, the index %d", c.clauses, c.p, g.Endless, f, e, i)
			}
		}
	}
}

// P7.4: the first entry that is not locally right, whatever the entries are, up to the farthest numbers.
func TestRightOf(t *testing.T) {
	g := specimen.Row(t, 3, steppers, "")
	l, _ := listed(t, g, "A.a/0/0/0/1")
	if n, e := solve.Next(g, l); e != api.OK || !slices.EqualFunc(n, [][]int{nil, {2}, {0}}, slices.Equal) {
		t.Fatal(n, e)
	}
	for _, c := range []struct {
		v    []api.Result
		want int
	}{
		{[]api.Result{loss(0), loss(2), win(1)}, -1},
		{[]api.Result{loss(1), loss(2), win(1)}, 0},
		{[]api.Result{win(0), win(2), loss(1)}, 0},
		{[]api.Result{draw, draw, draw}, 0},
		{[]api.Result{{}, draw, draw}, 0},
		{[]api.Result{loss(0), loss(1), win(1)}, 1},
		{[]api.Result{loss(0), win(2), win(1)}, 1},
		{[]api.Result{loss(0), draw, win(1)}, 1},
		{[]api.Result{loss(0), {Out: api.Draw, N: 2}, draw}, 1},
		{[]api.Result{loss(0), loss(1), draw}, 1},
		{[]api.Result{loss(0), loss(3), win(2)}, 2},
		{[]api.Result{loss(0), draw, draw}, 2},
		{[]api.Result{loss(0), draw, {}}, 2},
		{[]api.Result{loss(0), draw, {Out: 4, N: 1}}, 2},
		{[]api.Result{loss(0), win(2), loss(1)}, 2},
		{[]api.Result{loss(0), win(-4), loss(-5)}, 2},
		{[]api.Result{loss(0), win(0), loss(-1)}, 2},
		{[]api.Result{loss(0), win(-6), loss(-5)}, 1},
		{[]api.Result{loss(0), win(math.MinInt), loss(math.MaxInt)}, 1},
		{[]api.Result{loss(0), loss(math.MinInt), win(math.MaxInt)}, 1},
		{[]api.Result{loss(0), loss(math.MaxInt), win(math.MaxInt - 1)}, 2},
		{[]api.Result{loss(0), win(math.MinInt + 1), loss(math.MinInt)}, 2},
	} {
		if k, e := solve.Right(g, l, c.v); e != api.OK || k != c.want {
			t.Errorf("%v: %d, %v, not %d", c.v, k, e, c.want)
		}
	}
	if k, e := solve.Right(g, nil, nil); e != api.OK || k != -1 {
		t.Errorf("no positions: %d, %v", k, e)
	}
}

// P7.1: the best move is the first one of those that are equally good; those that are worse may come before it.
func TestBestOf(t *testing.T) {
	for _, c := range []struct {
		cells                int
		kinds, clauses, p, q string
	}{
		{3, steppers, "", "A.a/0/0/0/0", ".Aa/0/0/0/1"},
		{6, waiters, "holds a 4 loss\n", "A....b/00/00/0/0", "..A..b/00/00/0/1"},
		{6, waiters, "holds a 4 loss\n", ".A...b/00/00/0/0", "...A.b/00/00/0/1"},
		{6, waiters, "holds a 4 win\n", "..A..b/00/00/0/0", "...A.b/00/00/0/1"},
		{6, waiters, "holds a 4 win\n", "...A.b/00/00/0/0", "...A.b/00/00/0/1"},
		{9, goers, "", "..a.A..../00/00/0/1", ".a..A..../00/00/0/0"},
		{9, goers, "", "....a.A../00/00/0/0", "....a..A./00/00/0/1"},
		{4, goers, "holds a 1 draw\nholds a 2 loss\n", "A..b/00/00/0/0", "..Ab/00/00/0/1"},
		{4, goers, "holds a 1 loss\nholds a 2 draw\n", "A..b/00/00/0/0", ".A.b/00/00/0/1"},
		{4, goers, "holds a 1 draw\nholds a 2 draw\n", "A..b/00/00/0/0", "..Ab/00/00/0/1"},
		{4, goers, "holds a 1 draw\nholds a 2 win\n", "A..b/00/00/0/0", ".A.b/00/00/0/1"},
		{4, goers, "holds a 1 win\nholds a 2 win\n", "A..b/00/00/0/0", "..Ab/00/00/0/1"},
	} {
		g := specimen.Row(t, c.cells, c.kinds, c.clauses)
		l, i := listed(t, g, c.p)
		if k, e := solve.Best(g, l, solved(t, g, l), i); e != api.OK || specimen.Texts(g, l[k:k+1]) != c.q {
			t.Errorf("%q, %q, %s: the index %d of %s, %v", c.kinds, c.clauses, c.p, k, specimen.Texts(g, l), e)
		}
	}
}

// P7.1: there is no best move from a position that is not there, or over.
func TestNoBest(t *testing.T) {
	g := specimen.Row(t, 3, steppers, "")
	l, _ := listed(t, g, "A.a/0/0/0/0")
	v := solved(t, g, l)
	for _, i := range []int{-1, 3, 4, math.MinInt, math.MaxInt} {
		if k, e := solve.Best(g, l, v, i); k != 0 || e != api.ErrArg {
			t.Errorf("the index %d: %d, %v", i, k, e)
		}
		if k, e := solve.Best(g, l, v[1:], i); k != 0 || e != api.ErrList {
			t.Errorf("the index %d of values that are too few: %d, %v", i, k, e)
		}
	}
	if k, e := solve.Best(g, nil, nil, 0); k != 0 || e != api.ErrArg {
		t.Errorf("no positions: %d, %v", k, e)
	}
	end := pos.Find(l, specimen.Parsed(t, g, ".a./0/0/0/0"))
	if k, e := solve.Best(g, l, v, end); k != 0 || e != api.ErrNone {
		t.Errorf("at the end: %d, %v", k, e)
	}
}

// checkRefused checks that the list is refused by all functions, whatever else is said.
func checkRefused(t *testing.T, g api.Game, l []api.Pos) {
	t.Helper()
	n, e := solve.Next(g, l)
	v, e1 := solve.Values(g, l)
	f, e2 := solve.Final(g, l)
	if len(n)+len(v)+len(f) > 0 || e != api.ErrList || e1 != api.ErrList || e2 != api.ErrList {
		t.Fatalf("%v, %v: %v, %v, %v, %v, %v, %v", g, l, n, e, v, e1, f, e2)
	}
	for _, i := range []int{0, -1, len(l)} {
		k, e := solve.Right(g, l, make([]api.Result, len(l)))
		best, e1 := solve.Best(g, l, make([]api.Result, len(l)), i)
		if k != 0 || best != 0 || e != api.ErrList || e1 != api.ErrList {
			t.Fatalf("%v, %v: %d, %v, %d, %v", g, l, k, e, best, e1)
		}
	}
}

// P7.8: lists that are not in order, have positions twice, lack moves, or have positions that are not valid, are refused.
func TestRefusals(t *testing.T) {
	g := specimen.Row(t, 6, waiters, "")
	l, _ := listed(t, g, "..A..b/00/00/0/0")
	turned := slices.Clone(l)
	slices.Reverse(turned)
	checkRefused(t, g, turned)
	for i := range l {
		checkRefused(t, g, slices.Insert(slices.Clone(l), i, l[i]))
		if i > 0 {
			swapped := slices.Clone(l)
			swapped[i], swapped[i-1] = l[i-1], l[i]
			checkRefused(t, g, swapped)
		}
		for _, change := range []func(*api.Pos){
			func(p *api.Pos) { *p = api.Pos{} },
			func(p *api.Pos) { p.At[5] = 5 },
			func(p *api.Pos) { p.At[0] = -1 },
			func(p *api.Pos) { p.At[0] += 256 },
			func(p *api.Pos) { p.At = p.At[:5] },
			func(p *api.Pos) { p.At = append(p.At, 0) },
			func(p *api.Pos) { p.Hand[1][0] = 1 },
			func(p *api.Pos) { p.Hand[0] = nil },
			func(p *api.Pos) { p.Rights = 2 },
			func(p *api.Pos) { p.Side -= 256 },
		} {
			p := specimen.Copied(l[i])
			change(&p)
			changed := slices.Clone(l)
			changed[i] = p
			checkRefused(t, g, changed)
			checkRefused(t, g, pos.Sort(append(changed, l[i])))
		}
	}
	// What can be reached from the last two positions is a list of its own; from them, one can come to the others.
	checkRefused(t, g, l[len(l)-2:])
	checkRefused(t, g, l[1:])
	if n, e := solve.Next(g, l[:len(l)-2]); e != api.OK || len(n) != len(l)-2 {
		t.Error("without the first moves:", n, e)
	}
	other := specimen.Row(t, 5, waiters, "")
	checkRefused(t, other, l)
	for _, v := range [][]api.Result{nil, make([]api.Result, len(l)-1), make([]api.Result, len(l)+1)} {
		if k, e := solve.Right(g, l, v); k != 0 || e != api.ErrList {
			t.Errorf("%d entries: %d, %v", len(v), k, e)
		}
		if k, e := solve.Best(g, l, v, 0); k != 0 || e != api.ErrList {
			t.Errorf("%d entries: %d, %v", len(v), k, e)
		}
	}
	if k, e := solve.Right(g, nil, make([]api.Result, 1)); k != 0 || e != api.ErrList {
		t.Errorf("one entry of none: %d, %v", k, e)
	}
}
