package back_test

import (
	"iter"
	"math/rand/v2"
	"slices"
	"testing"

	"skewer/api"
	"skewer/back"
	"skewer/board"
	"skewer/play"
	"skewer/pos"
	"skewer/specimen"
)

// raised yields the lists whose elements are at most those of most, one after the other. It is one list, which changes.
func raised(most []int) iter.Seq[[]int] {
	return func(yield func([]int) bool) {
		l := make([]int, len(most))
		for {
			if !yield(l) {
				return
			}
			i := 0
			for i < len(l) && l[i] == most[i] {
				l[i] = 0
				i++
			}
			if i == len(l) {
				return
			}
			l[i]++
		}
	}
}

// everything returns all valid positions of g; none, if there are more than most.
func everything(g api.Game, most int) []api.Pos {
	cells, kinds := g.Board.Cells, len(g.Kinds)
	numbers := slices.Repeat([]int{2 * kinds}, cells)
	for range 2 {
		for _, k := range g.Kinds {
			if k.Keep {
				numbers = append(numbers, api.MaxHand)
			} else {
				numbers = append(numbers, 0)
			}
		}
	}
	numbers = append(numbers, 1<<g.Rights-1, 1)
	count := 1
	for _, n := range numbers {
		if count *= n + 1; count > most {
			return nil
		}
	}
	var all []api.Pos
	for l := range raised(numbers) {
		rest := l[cells:]
		all = append(all, specimen.Copied(api.Pos{
			At: l[:cells], Hand: [2][]int{rest[:kinds], rest[kinds : 2*kinds]}, Rights: rest[2*kinds], Side: rest[2*kinds+1],
		}))
	}
	return all
}

// origins tells, by their keys, from which of all valid positions of a game a move leads to a position.
type origins map[string][]api.Pos

// toldOrigins returns what play.Moves tells of all valid positions of a game.
func toldOrigins(g api.Game, all []api.Pos) origins {
	told := origins{}
	for _, p := range all {
		for _, q := range play.Moves(g, p) {
			told[pos.Key(q)] = append(told[pos.Key(q)], p)
		}
	}
	return told
}

// chain returns what a chain of n moves to p has, and whether there are not too many positions on the way.
func (o origins) chain(p api.Pos, n int) ([]api.Pos, bool) {
	l := []api.Pos{p}
	for range n {
		var next []api.Pos
		for _, q := range l {
			next = append(next, o[pos.Key(q)]...)
		}
		if l = pos.Sort(next); len(l) > 4000 {
			return nil, false
		}
	}
	return l, true
}

// arisen returns one of the positions, or, mostly, a move from one of them.
func arisen(pick specimen.Pick, g api.Game, all []api.Pos) api.Pos {
	p := all[pick(len(all))]
	if moves := play.Moves(g, p); len(moves) > 0 && pick(4) > 0 {
		return moves[pick(len(moves))]
	}
	return p
}

// same reports whether both have the same positions, in the same order.
func same(a, b []api.Pos) bool {
	return slices.EqualFunc(a, b, func(p, q api.Pos) bool { return pos.Compare(p, q) == 0 })
}

// checkAll checks the positions before so many positions of a game, of which all are given, and returns how many there are.
func checkAll(t *testing.T, pick specimen.Pick, g api.Game, all []api.Pos, positions int) int {
	t.Helper()
	told, found := toldOrigins(g, all), 0
	for range positions {
		p := arisen(pick, g, all)
		want, _ := told.chain(p, 1)
		got, e := back.Back(g, p)
		if e != api.OK || !same(got, want) {
			t.Fatalf("%v, %v: %v, %v, not %v", g, p, got, e, want)
		}
		found += len(got)
	}
	return found
}

// P9.1, P9.2, P9.3: on small boards, the positions before each position are those of all valid ones from which it is a move.
func TestAllPositions(t *testing.T) {
	pick := rand.New(rand.NewPCG(1, 2)).IntN
	games, found := 0, 0
	for range 4000 {
		g := specimen.Game(pick)
		if all := everything(g, 3000); len(all) > 0 {
			games++
			found += checkAll(t, pick, g, all, 60)
		}
	}
	if games < 700 || found < 20000 {
		t.Errorf("only %d games, %d positions", games, found)
	}
}

// P9.1, P9.2, P9.3: the same on a grid, where men go, capture and push in all directions, so that very much is before a position.
func TestGrid(t *testing.T) {
	b, e := board.Grid(3, 2)
	if e != api.OK {
		t.Fatal(e)
	}
	pick := rand.New(rand.NewPCG(7, 8)).IntN
	for _, must := range []bool{false, true} {
		g := api.Game{Board: b, Kinds: []api.Kind{{Name: "a"}, {Name: "b"}}, Must: must, Blocked: api.Loss, Endless: api.Draw}
		for d := range b.Next {
			to := api.Step{Op: api.Go, N: d}
			ways := []api.Prog{{to}, {to, {Op: api.Take}}, {to, {Op: api.Push, N: (d + 1) % 8}}, {to, {Op: api.Take}, {Op: api.Become, N: d / 4}}}
			for i := range g.Kinds {
				g.Kinds[i].Progs = append(g.Kinds[i].Progs, ways[(d+d/4+i)%4])
			}
		}
		if found := checkAll(t, pick, g, everything(g, 40000), 2000); found < 8000 {
			t.Errorf("only %d positions", found)
		}
	}
}

// P9.1, P9.5: on small boards, chains have what several moves lead from.
func TestAllChains(t *testing.T) {
	pick := rand.New(rand.NewPCG(3, 4)).IntN
	chains, long := 0, 0
	for range 1500 {
		g := specimen.Game(pick)
		all := everything(g, 8000)
		if len(all) == 0 {
			continue
		}
		told := toldOrigins(g, all)
		for range 30 {
			p, n := arisen(pick, g, all), pick(api.MaxDepth+1)
			want, ok := told.chain(p, n)
			got, e := back.Chain(g, p, n)
			if ok != (e == api.OK) || !ok && e != api.ErrBig || !same(got, want) {
				t.Fatalf("%v, %v, %d moves: %d positions, %v, not %d, %v", g, p, n, len(got), e, len(want), ok)
			}
			chains++
			if n > 2 && len(got) > 0 {
				long++
			}
		}
	}
	if chains < 10000 || long < 300 {
		t.Errorf("only %d chains, and %d that are long", chains, long)
	}
}

// samples yields valid games, with positions of plays from many of their positions. They are the same ones each time.
func samples(games int) iter.Seq2[api.Game, api.Pos] {
	return func(yield func(api.Game, api.Pos) bool) {
		pick := rand.New(rand.NewPCG(5, 6)).IntN
		for g, p := range specimen.Samples(pick, games, 8) {
			for _, q := range play.Walk(g, p, []int{pick(100), pick(100), pick(100)}) {
				if !yield(g, q) {
					return
				}
			}
		}
	}
}

// P9.4: after a move, going back finds where it came from.
func TestForthAndBack(t *testing.T) {
	moves, refused := 0, 0
	for g, p := range samples(700) {
		for _, q := range play.Moves(g, p) {
			l, e := back.Back(g, q)
			if e == api.ErrBig {
				refused++
				continue
			}
			if e != api.OK || pos.Find(l, p) < 0 {
				t.Fatalf("%v, %v, then %v: %v, %v", g, p, q, l, e)
			}
			moves++
		}
	}
	if moves < 10000 || refused > moves/100 {
		t.Errorf("only %d moves, and %d are refused", moves, refused)
	}
}

// men returns how many men there are, hands included.
func men(p api.Pos) int {
	n := 0
	for _, content := range p.At {
		n += min(1, content)
	}
	for _, hand := range p.Hand {
		for _, k := range hand {
			n += k
		}
	}
	return n
}

// P9.2, P9.6, P9.7, P9.8: positions before are valid, strictly increasing, of the other side, not over, with at least as many men and all rights; and the position is a move.
func TestBefore(t *testing.T) {
	count, taken, lost := 0, 0, 0
	for g, p := range samples(1200) {
		l, _ := back.Back(g, p)
		for i, q := range l {
			if !pos.Valid(g, q) || i > 0 && pos.Compare(l[i-1], q) != -1 || !play.Legal(g, q, p) {
				t.Fatalf("%v, %v: %v", g, p, q)
			}
			if _, over := play.Status(g, q); over || q.Side != 1-p.Side || men(q) < men(p) || p.Rights&^q.Rights != 0 {
				t.Fatalf("%v, %v: %v", g, p, q)
			}
			count++
			if men(q) > men(p) {
				taken++
			}
			if q.Rights != p.Rights {
				lost++
			}
		}
	}
	if count < 25000 || min(taken, lost) < 500 {
		t.Errorf("only %d positions, %d with more men, %d with more rights", count, taken, lost)
	}
}

// P9.5: going back several moves is going back one move several times.
func TestOneByOne(t *testing.T) {
	count := 0
	for g, p := range samples(80) {
		l := []api.Pos{p}
		for n := range 4 {
			got, e := back.Chain(g, p, n)
			if len(l) > api.MaxNodes {
				l = nil
			}
			if e == api.ErrBig {
				if len(l) != 0 || n == 0 {
					t.Fatalf("%v, %v, %d moves: %v", g, p, n, e)
				}
				break
			}
			if e != api.OK || !same(got, l) {
				t.Fatalf("%v, %v, %d moves: %v, %v, not %v", g, p, n, got, e, l)
			}
			count += len(l)
			if len(l) > 100 {
				break
			}
			var next []api.Pos
			for _, q := range l {
				before, e := back.Back(g, q)
				if e != api.OK {
					t.Fatalf("%v, %v: %v", g, q, e)
				}
				next = append(next, before...)
			}
			l = pos.Sort(next)
		}
	}
	if count < 10000 {
		t.Errorf("only %d positions", count)
	}
}
