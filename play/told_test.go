package play_test

import (
	"fmt"
	"iter"
	"maps"
	"math/rand/v2"
	"slices"
	"testing"

	"skewer/api"
	"skewer/play"
	"skewer/pos"
	"skewer/run"
	"skewer/specimen"
)

// samples yields valid games and positions. They are the same ones each time.
func samples() iter.Seq2[api.Game, api.Pos] {
	return specimen.Samples(rand.New(rand.NewPCG(1, 2)).IntN, 2000, 10)
}

// men returns how many men of a side are on the board.
func men(p api.Pos, side int) int {
	sum := 0
	for _, content := range p.At {
		if content > 0 && (content-1)%2 == side {
			sum++
		}
	}
	return sum
}

// toldClause returns what the chapter tells of the clauses: Then of the first one that holds, or 0.
func toldClause(g api.Game, p api.Pos) int {
	for _, c := range g.Clauses {
		holds := false
		switch c.If {
		case api.Lacks:
			holds = pos.Count(g, p, p.Side)[c.Kind] == 0
		case api.Holds:
			holds = p.At[c.N] == 1+2*c.Kind+(1-p.Side)
		case api.Few:
			holds = men(p, p.Side) <= c.N
		}
		if holds {
			return c.Then
		}
	}
	return 0
}

// toldMoves returns what the chapter tells of the moves from p, if no clause holds, with and without Must.
func toldMoves(g api.Game, p api.Pos) (free, must map[string]bool) {
	free, must = map[string]bool{}, map[string]bool{}
	for cell := range g.Board.Cells {
		// For cells without a man of the mover, and programs that are not there, there are no outcomes.
		for i := range api.MaxProgs {
			l, _ := run.Runs(g, p, cell, i)
			for _, o := range l {
				free[fmt.Sprint(o.Pos)] = true
				if o.Took {
					must[fmt.Sprint(o.Pos)] = true
				}
			}
		}
	}
	for _, q := range run.Drops(g, p) {
		free[fmt.Sprint(q)] = true
	}
	if len(must) == 0 {
		must = free
	}
	return free, must
}

// set returns the set of the moves from p, which have to be valid positions of the other side, in order.
func set(t *testing.T, g api.Game, p api.Pos) map[string]bool {
	t.Helper()
	all := map[string]bool{}
	l := play.Moves(g, p)
	for i, q := range l {
		all[fmt.Sprint(q)] = true
		if !pos.Valid(g, q) || q.Side != 1-p.Side || i > 0 && pos.Compare(l[i-1], q) != -1 {
			t.Fatalf("%v, %v: %v", g, p, l)
		}
	}
	return all
}

// checkSet checks the set of the moves from p.
func checkSet(t *testing.T, g api.Game, p api.Pos, want map[string]bool) {
	t.Helper()
	if got := set(t, g, p); !maps.Equal(got, want) {
		t.Fatalf("%v, %v: %v, not %v", g, p, got, want)
	}
}

// P6.1, P6.2, P6.3: moves and results are those that the chapter tells of.
func TestTold(t *testing.T) {
	count := map[int]int{}
	for g, p := range samples() {
		out := toldClause(g, p)
		free, want := toldMoves(g, p)
		if !g.Must {
			want = free
		}
		if out != 0 {
			want = nil
		} else if len(want) == 0 {
			out = g.Blocked
		}
		checkSet(t, g, p, want)
		if got, over := play.Status(g, p); got != out || over != (out != 0) {
			t.Fatalf("%v, %v: %d, %v, not %d", g, p, got, over, out)
		}
		count[out]++
	}
	for out := range api.Loss + 1 {
		if count[out] < 1000 {
			t.Errorf("only %d with the result %d", count[out], out)
		}
	}
}

// P6.1: a position is legal exactly if it is one of the moves. Tried are those that would be moves without Must and clauses, what is near them, and what is no position.
func TestToldLegal(t *testing.T) {
	pick := rand.New(rand.NewPCG(3, 4)).IntN
	count := map[bool]int{}
	for g, p := range samples() {
		moves := set(t, g, p)
		tried := []api.Pos{p, specimen.Pos(pick, g), {}}
		free := g
		free.Must, free.Clauses = false, nil
		for _, q := range play.Moves(free, p) {
			tried = append(tried, q, specimen.OtherPos(pick, q))
		}
		for _, q := range tried {
			want := moves[fmt.Sprint(q)]
			if play.Legal(g, p, q) != want {
				t.Fatalf("%v, %v: Legal of %v is not %v", g, p, q, want)
			}
			count[want]++
		}
	}
	if min(count[true], count[false]) < 10000 {
		t.Errorf("legal and not: %v", count)
	}
}

// P6.4: with Must, moves without a capture are there only if there are none with one; without Must, all are there.
func TestMust(t *testing.T) {
	compelled := 0
	for g, p := range samples() {
		g.Must = false
		free := set(t, g, p)
		captures := map[string]bool{}
		for _, q := range play.Moves(g, p) {
			if men(q, 1-p.Side) < men(p, 1-p.Side) {
				captures[fmt.Sprint(q)] = true
			}
		}
		want := free
		if len(captures) > 0 {
			want = captures
		}
		g.Must = true
		checkSet(t, g, p, want)
		if len(want) < len(free) {
			compelled++
		}
	}
	if compelled < 500 {
		t.Errorf("only %d are compelled", compelled)
	}
}

// P6.5: more clauses, at the end, end no position otherwise that was ended by a clause before; without clauses, only blocked positions are over.
func TestClauses(t *testing.T) {
	pick := rand.New(rand.NewPCG(5, 6)).IntN
	for g, p := range samples() {
		before, was := play.Status(g, p)
		more := g
		more.Clauses = append(slices.Clone(g.Clauses), specimen.Clause(pick, g), specimen.Clause(pick, g))
		after, is := play.Status(more, p)
		if was && !is || toldClause(g, p) != 0 && after != before {
			t.Fatalf("%v, %v: %d, and with %v: %d, %v", g, p, before, more.Clauses, after, is)
		}
		// What is ended by a new clause is ended as by this clause alone.
		more.Clauses = more.Clauses[len(g.Clauses):]
		if alone := toldClause(more, p); toldClause(g, p) == 0 && alone != 0 && after != alone {
			t.Fatalf("%v, %v: %d with %v", g, p, after, more.Clauses)
		}
		more.Clauses = nil
		free, _ := toldMoves(g, p)
		if out, over := play.Status(more, p); over != (len(free) == 0) || over && out != g.Blocked {
			t.Fatalf("%v, %v: without clauses %d, %v", g, p, out, over)
		}
	}
}

// P6.6: each position of a play is the move from the one before that is picked; a play ends where picks do, or where it is over.
func TestWalks(t *testing.T) {
	r := rand.New(rand.NewPCG(7, 8))
	ended, long := 0, 0
	for g, p := range samples() {
		var picks []int
		for range r.IntN(12) {
			picks = append(picks, r.IntN(41)-20)
		}
		l := play.Walk(g, p, picks)
		if len(l) == 0 || pos.Compare(l[0], p) != 0 || len(l) > len(picks)+1 {
			t.Fatalf("%v, %v, %v: %v", g, p, picks, l)
		}
		for i, q := range l[1:] {
			moves := play.Moves(g, l[i])
			at := slices.IndexFunc(moves, func(m api.Pos) bool { return pos.Compare(m, q) == 0 })
			if at < 0 || (picks[i]-at)%len(moves) != 0 || !play.Legal(g, l[i], q) {
				t.Fatalf("%v, %v, %v: %v after %v", g, p, picks, q, l[i])
			}
		}
		if len(l) == len(picks)+1 {
			long++
			continue
		}
		ended++
		if _, over := play.Status(g, l[len(l)-1]); !over {
			t.Fatalf("%v, %v, %v: not over: %v", g, p, picks, l)
		}
	}
	if min(ended, long) < 2000 {
		t.Errorf("only %d are over, and %d are long", ended, long)
	}
}

// P6.7: the other side does not get men on the board; the side that moves gets one with a drop, from its hand, and none without.
func TestMen(t *testing.T) {
	for g, p := range samples() {
		me, other := p.Side, 1-p.Side
		drops := map[string]bool{}
		for _, q := range run.Drops(g, p) {
			drops[fmt.Sprint(q)] = true
		}
		for _, q := range play.Moves(g, p) {
			want, hand := 0, slices.Clone(p.Hand[me])
			if drops[fmt.Sprint(q)] {
				want = 1
				before, after := pos.Count(g, p, me), pos.Count(g, q, me)
				for i := range hand {
					hand[i] -= after[i] - before[i]
				}
				if !slices.Equal(hand, q.Hand[me]) {
					t.Fatalf("%v, %v: %v", g, p, q)
				}
			}
			if men(q, me)-men(p, me) != want || men(q, other) > men(p, other) || !slices.Equal(q.Hand[other], p.Hand[other]) {
				t.Fatalf("%v, %v: %v", g, p, q)
			}
		}
	}
}

// P6.8: a further program, that fails on all ways, makes no difference; nor does one that is there already.
func TestPrograms(t *testing.T) {
	r := rand.New(rand.NewPCG(9, 10))
	// A man that runs is not on its cell, and no cell has two owners.
	failing := []api.Prog{{{Op: api.Friend}}, {{Op: api.Go}, {Op: api.Enemy}, {Op: api.Friend}}, {{Op: api.Slide}, {Op: api.Empty}, {Op: api.Take}}, {{Op: api.Slide}, {Op: api.Enemy}}, {{Op: api.Push}}}
	for g, p := range samples() {
		before := set(t, g, p)
		kinds := slices.Clone(g.Kinds)
		for i, k := range kinds {
			more := []api.Prog{failing[r.IntN(len(failing))], k.Progs[r.IntN(len(k.Progs))]}
			at := r.IntN(len(k.Progs) + 1)
			kinds[i].Progs = slices.Concat(k.Progs[:at], more, k.Progs[at:])
		}
		g.Kinds = kinds
		checkSet(t, g, p, before)
	}
}
