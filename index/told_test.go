package index_test

import (
	"fmt"
	"math/big"
	"math/rand/v2"
	"slices"
	"testing"

	"skewer/api"
	"skewer/game"
	"skewer/index"
	"skewer/pos"
	"skewer/run"
	"skewer/specimen"
)

// arranged returns the positions with the men of p, sorted: all that arise from p when cells exchange what they have.
func arranged(p api.Pos) []api.Pos {
	l, at := []api.Pos{}, slices.Clone(p.At)
	var exchange func(from int)
	exchange = func(from int) {
		if from == len(at) {
			q := p
			q.At = slices.Clone(at)
			l = append(l, q)
			return
		}
		for c := from; c < len(at); c++ {
			// What was on this cell already needs not be there again.
			if slices.Contains(at[from:c], at[c]) {
				continue
			}
			at[from], at[c] = at[c], at[from]
			exchange(from + 1)
			at[from], at[c] = at[c], at[from]
		}
	}
	exchange(0)
	return pos.Sort(l)
}

// advance makes of the contents the next arrangement of them, and reports whether there is one.
func advance(at []int) bool {
	for c := len(at) - 2; c >= 0; c-- {
		if at[c] >= at[c+1] {
			continue
		}
		last := len(at) - 1
		for at[last] <= at[c] {
			last--
		}
		at[c], at[last] = at[last], at[c]
		slices.Reverse(at[c+1:])
		return true
	}
	return false
}

// checkRank checks that p has the material m, and in it the number i.
func checkRank(t *testing.T, g api.Game, m api.Material, p api.Pos, i int) {
	t.Helper()
	if !same(index.Of(g, p), m) {
		t.Fatalf("%v: not the material %v", p, m)
	}
	if rank, e := index.Rank(g, p); rank != i || e != api.OK {
		t.Fatalf("%v: %d, %v, not %d", p, rank, e, i)
	}
	if q, e := index.At(g, m, i); e != api.OK || pos.Compare(p, q) != 0 || !pos.Valid(g, q) {
		t.Fatalf("%v, %d: %v, %v, not %v", m, i, q, e, p)
	}
}

// P14.1, P14.2, P14.3, P14.4: the positions of a material are all that have the same men, and their numbers are their places among them.
func TestSmallGames(t *testing.T) {
	pick := rand.New(rand.NewPCG(1, 2)).IntN
	all := 0
	for g, p := range specimen.Samples(pick, 300, 2) {
		l, m := arranged(p), index.Of(g, p)
		checkSize(t, g, m, len(l), api.OK)
		for i, q := range l {
			checkRank(t, g, m, q, i)
		}
		for _, i := range []int{-1, len(l), len(l) + 1} {
			checkNone(t, g, m, i, api.ErrIndex)
		}
		all += len(l)
	}
	if all < 10000 {
		t.Errorf("only %d positions", all)
	}
}

// toldSize returns the size of a material with these men, as the chapter tells it.
func toldSize(men []int) *big.Int {
	cells := 0
	for _, n := range men {
		cells += n
	}
	size := new(big.Int).MulRange(1, int64(cells))
	for _, n := range men {
		size.Div(size, new(big.Int).MulRange(1, int64(n)))
	}
	return size
}

// toldRank returns the number of arrangements that come before this one of these men: those that have a lesser content on a cell, and before it the same ones.
func toldRank(men, at []int) int {
	left, rank := slices.Clone(men), new(big.Int)
	for _, content := range at {
		for lesser := range content {
			if left[lesser] > 0 {
				left[lesser]--
				rank.Add(rank, toldSize(left))
				left[lesser]++
			}
		}
		left[content]--
	}
	return int(rank.Int64())
}

// anyLarge returns a game with many cells and kinds, and a position of it whose material is about as great as it may be, or less.
func anyLarge(pick specimen.Pick) (api.Game, api.Pos) {
	kinds := 1 + pick(api.MaxKinds)
	keep := make([]bool, kinds)
	for i := range keep {
		keep[i] = pick(2) == 0
	}
	g := specimen.Still(1+pick(api.MaxCells), pick(api.MaxRights+1), keep...)
	p := specimen.Pos(pick, g)
	// The other content is that of most cells.
	most := pick(2*kinds + 1)
	for c := range p.At {
		p.At[c] = most
	}
	for range pick(30) {
		p.At[pick(len(p.At))] = pick(2*kinds + 1)
	}
	return g, p
}

// P14.1, P14.2, P14.7: on many cells, with many kinds, sizes and numbers are those that the chapter tells, or refused if the size is too great.
func TestLargeGames(t *testing.T) {
	pick := rand.New(rand.NewPCG(3, 4)).IntN
	told, refused := 0, 0
	for range 3000 {
		g, p := anyLarge(pick)
		m := index.Of(g, p)
		size := toldSize(m.Men)
		if !size.IsInt64() || size.Int64() > 1<<40 {
			refused++
			checkSize(t, g, m, 0, api.ErrBig)
			checkNone(t, g, m, 0, api.ErrBig)
			if rank, e := index.Rank(g, p); rank != 0 || e != api.ErrBig {
				t.Fatalf("%v: %d, %v", p, rank, e)
			}
			continue
		}
		told++
		n := int(size.Int64())
		checkSize(t, g, m, n, api.OK)
		checkRank(t, g, m, p, toldRank(m.Men, p.At))
		i := pick(n)
		q, e := index.At(g, m, i)
		if e != api.OK || !pos.Valid(g, q) || toldRank(m.Men, q.At) != i {
			t.Fatalf("%v, %d: %v, %v", m, i, q, e)
		}
		checkRank(t, g, m, q, i)
	}
	if min(told, refused) < 1000 {
		t.Errorf("only %d are told, and %d refused", told, refused)
	}
}

// P14.3, P14.4: on many cells, the first position of a material has the contents in order, the last one the other way around, and to each number and the next one belong a position and the next one.
func TestNext(t *testing.T) {
	pick := rand.New(rand.NewPCG(5, 6)).IntN
	next := 0
	for range 1000 {
		g, p := anyLarge(pick)
		m := index.Of(g, p)
		size, e := index.Size(g, m)
		if e != api.OK {
			continue
		}
		slices.Sort(p.At)
		checkRank(t, g, m, p, 0)
		slices.Reverse(p.At)
		checkRank(t, g, m, p, size-1)
		i := pick(size)
		q, e := index.At(g, m, i)
		if e != api.OK {
			t.Fatalf("%v, %d: %v", m, i, e)
		}
		for range 20 {
			if !advance(q.At) {
				if i != size-1 {
					t.Fatalf("%v, %v: the last one, but the number %d of %d", m, q, i, size)
				}
				break
			}
			i++
			next++
			checkRank(t, g, m, q, i)
		}
	}
	if next < 5000 {
		t.Errorf("only %d positions", next)
	}
}

// P14.3: of two positions with the same material, the one that comes first has the lesser rank.
func TestOrder(t *testing.T) {
	r := rand.New(rand.NewPCG(7, 8))
	less, greater := 0, 0
	for range 3000 {
		g, p := anyLarge(r.IntN)
		q := specimen.Copied(p)
		r.Shuffle(len(q.At), func(i, j int) { q.At[i], q.At[j] = q.At[j], q.At[i] })
		first, e := index.Rank(g, p)
		second, f := index.Rank(g, q)
		if e != f {
			t.Fatalf("%v, %v: %v, %v", p, q, e, f)
		}
		if e != api.OK {
			continue
		}
		order := pos.Compare(p, q)
		if order < 0 != (first < second) || order > 0 != (first > second) {
			t.Fatalf("%v, %v: %d, %d", p, q, first, second)
		}
		if order < 0 {
			less++
		} else if order > 0 {
			greater++
		}
	}
	if min(less, greater) < 200 {
		t.Errorf("only %d come before, and %d after", less, greater)
	}
}

// P14.5: the sizes of all materials with the same hands, rights and side are together the number of ways to fill the cells.
func TestTotals(t *testing.T) {
	for _, c := range []struct{ cells, kinds int }{{1, 1}, {2, 1}, {3, 1}, {7, 1}, {25, 1}, {1, 2}, {4, 2}, {8, 2}, {17, 2}, {1, 3}, {5, 3}, {8, 3}, {5, 4}, {4, 5}, {1, 6}, {2, 6}, {5, 6}} {
		keep := make([]bool, c.kinds)
		keep[0] = true
		g := specimen.Still(c.cells, 2, keep...)
		m := of(make([]int, 2*c.kinds+1)...)
		m.Hand[1][0], m.Rights, m.Side = 3, 2, 1
		total := 0
		var choose func(content, left int)
		choose = func(content, left int) {
			if content == len(m.Men)-1 {
				m.Men[content] = left
				size, e := index.Size(g, m)
				if e != api.OK {
					t.Fatalf("%v: %v", m, e)
				}
				total += size
				return
			}
			for n := range left + 1 {
				m.Men[content] = n
				choose(content+1, left-n)
			}
		}
		choose(0, c.cells)
		want := 1
		for range c.cells {
			want *= 2*c.kinds + 1
		}
		if total != want {
			t.Errorf("%v: %d, not %d", c, total, want)
		}
	}
}

// P14.6: a program that neither captures nor becomes something changes no count of men; one that captures makes as many empty cells more as the other side has men less, and adds nothing to hands for kinds that are not kept.
func TestPrograms(t *testing.T) {
	pick := rand.New(rand.NewPCG(9, 10)).IntN
	still, captures := 0, 0
	for g, p := range specimen.Samples(pick, 8000, 3) {
		for cell, content := range p.At {
			kind, side := game.Man(content)
			if side != p.Side {
				continue
			}
			for i, program := range g.Kinds[kind].Progs {
				outcomes, e := run.Runs(g, p, cell, i)
				if e != api.OK {
					t.Fatal(e)
				}
				for _, o := range outcomes {
					if !has(program, api.Take) && !has(program, api.Become) {
						still++
						checkStill(t, g, p, o.Pos)
					} else if !has(program, api.Become) {
						captures += checkCaptures(t, g, p, o.Pos)
					}
				}
			}
		}
	}
	if min(still, captures) < 1000 {
		t.Errorf("only %d outcomes without a capture, and %d men captured", still, captures)
	}
}

// has reports whether the program has a step with this Op.
func has(p api.Prog, op int) bool {
	return slices.ContainsFunc(p, func(s api.Step) bool { return s.Op == op })
}

// checkStill checks that all men are in q that are in p, on the board and in hands.
func checkStill(t *testing.T, g api.Game, p, q api.Pos) {
	t.Helper()
	m, n := index.Of(g, p), index.Of(g, q)
	if !slices.Equal(m.Men, n.Men) || fmt.Sprint(m.Hand) != fmt.Sprint(n.Hand) || n.Side == m.Side {
		t.Fatalf("%v, %v, then %v", g, m, n)
	}
}

// checkCaptures checks that from p to q, only men of the side that does not move become fewer, and returns how many of those are of kinds that are not kept.
func checkCaptures(t *testing.T, g api.Game, p, q api.Pos) int {
	t.Helper()
	m, n := index.Of(g, p), index.Of(g, q)
	captured, gone := 0, 0
	for kind, k := range g.Kinds {
		own, other := game.Code(kind, p.Side), game.Code(kind, 1-p.Side)
		fewer := m.Men[other] - n.Men[other]
		captured += fewer
		if m.Men[own] != n.Men[own] || fewer < 0 || !k.Keep && (m.Hand[0][kind] != n.Hand[0][kind] || m.Hand[1][kind] != n.Hand[1][kind]) {
			t.Fatalf("%v, %v, then %v", g, m, n)
		}
		if !k.Keep {
			gone += fewer
		}
	}
	if n.Men[0] != m.Men[0]+captured {
		t.Fatalf("%v, %v, then %v", g, m, n)
	}
	return gone
}
