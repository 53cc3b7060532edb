package sym_test

import (
	"fmt"
	"iter"
	"math/rand/v2"
	"slices"
	"testing"

	"skewer/api"
	"skewer/play"
	"skewer/pos"
	"skewer/prog"
	"skewer/solve"
	"skewer/specimen"
	"skewer/sym"
)

// orders yields all orders of the numbers less than n, as the chapter orders lists. The list is a new one each time.
func orders(n int) iter.Seq[[]int] {
	return func(yield func([]int) bool) {
		l := make([]int, n)
		for i := range l {
			l[i] = i
		}
		for {
			if !yield(slices.Clone(l)) {
				return
			}
			i := n - 2
			for i >= 0 && l[i] > l[i+1] {
				i--
			}
			if i < 0 {
				return
			}
			j := n - 1
			for l[j] < l[i] {
				j--
			}
			l[i], l[j] = l[j], l[i]
			slices.Reverse(l[i+1:])
		}
	}
}

// isOrder reports whether each number less than n stands in l once.
func isOrder(l []int, n int) bool {
	for i := range n {
		if !slices.Contains(l, i) {
			return false
		}
	}
	return len(l) == n
}

// progTexts returns the texts of programs, in order.
func progTexts(l []api.Prog) []string {
	var all []string
	for _, p := range l {
		all = append(all, prog.Print(p))
	}
	slices.Sort(all)
	return all
}

// toldBoard reports whether the permutations preserve the steps, as the chapter tells it.
func toldBoard(b api.Board, cells, dirs []int) bool {
	for d := range b.Next {
		for c := range b.Cells {
			want := -1
			if to := b.Next[d][c]; to != -1 {
				want = cells[to]
			}
			if b.Next[dirs[d]][cells[c]] != want {
				return false
			}
		}
		if b.Turn[dirs[d]] != dirs[b.Turn[d]] {
			return false
		}
	}
	return true
}

// toldRules reports whether the permutations preserve the programs and clauses, as the chapter tells it.
func toldRules(g api.Game, cells, dirs []int) bool {
	for _, k := range g.Kinds {
		var turned []api.Prog
		for _, p := range k.Progs {
			turned = append(turned, prog.Turned(p, dirs))
		}
		if !slices.Equal(progTexts(turned), progTexts(k.Progs)) {
			return false
		}
	}
	clauses := slices.Clone(g.Clauses)
	for i, c := range clauses {
		if c.If == api.Holds {
			clauses[i].N = cells[c.N]
		}
	}
	return slices.Equal(clauses, g.Clauses)
}

// toldValid reports whether s is a symmetry, as the chapter tells it.
func toldValid(g api.Game, s api.Sym) bool {
	return isOrder(s.Cells, g.Board.Cells) && isOrder(s.Dirs, len(g.Board.Next)) && toldBoard(g.Board, s.Cells, s.Dirs) && toldRules(g, s.Cells, s.Dirs)
}

// toldFound returns what is to be found: all permutations are tried.
func toldFound(g api.Game) []api.Sym {
	dirs := slices.Collect(orders(len(g.Board.Next)))
	var all []api.Sym
	for cells := range orders(g.Board.Cells) {
		if i := slices.IndexFunc(dirs, func(l []int) bool { return toldValid(g, symOf(cells, l)) }); i >= 0 {
			all = append(all, symOf(cells, dirs[i]))
		}
	}
	return all
}

// even returns a valid game that often has symmetries: each program is there with its directions turned, too, and the board may have each cell twice, or few cells to which steps lead.
func even(pick specimen.Pick) api.Game {
	g := specimen.Even(specimen.Game(pick))
	if pick(4) > 0 {
		g.Clauses = slices.DeleteFunc(g.Clauses, func(c api.Clause) bool { return c.If == api.Holds })
	}
	switch few := pick(g.Board.Cells); {
	case pick(2) == 0 && g.Board.Cells <= 3:
		g.Board = doubled(g.Board, pick(2) == 0)
	case pick(3) == 0:
		for _, row := range g.Board.Next {
			for c, to := range row {
				row[c] = min(to, few)
			}
		}
	}
	return g
}

// doubled returns the board with two cells for each one of b, of which the second one has the steps among the second ones, perhaps turned.
func doubled(b api.Board, turn bool) api.Board {
	out := api.Board{Cells: 2 * b.Cells, Turn: b.Turn}
	for d := range b.Next {
		both := [2][]int{b.Next[d], b.Next[d]}
		if turn {
			both[1] = b.Next[b.Turn[d]]
		}
		row := make([]int, out.Cells)
		for c := range row {
			row[c] = both[c%2][c/2]
			if row[c] >= 0 {
				row[c] = 2*row[c] + c%2
			}
		}
		out.Next = append(out.Next, row)
	}
	return out
}

// games yields valid games, many of which have symmetries. They are the same ones each time.
func games(n int) iter.Seq2[specimen.Pick, api.Game] {
	return func(yield func(specimen.Pick, api.Game) bool) {
		pick := rand.New(rand.NewPCG(1, 2)).IntN
		for range n {
			if !yield(pick, even(pick)) {
				return
			}
		}
	}
}

// images yields games that have other symmetries than the identity, each with some of its symmetries and positions.
func images(n int) iter.Seq2[api.Game, func(func(api.Sym, api.Pos) bool)] {
	return func(yield func(api.Game, func(func(api.Sym, api.Pos) bool)) bool) {
		for pick, g := range games(n) {
			l := sym.Find(g)
			if len(l) < 2 {
				continue
			}
			if !yield(g, func(yield func(api.Sym, api.Pos) bool) {
				for range 12 {
					if !yield(l[pick(len(l))], specimen.Pos(pick, g)) {
						return
					}
				}
			}) {
				return
			}
		}
	}
}

// P11.1, P11.2, P11.5: what is found is what is there among all permutations; the least of them is the identity.
func TestTold(t *testing.T) {
	others, turning := 0, 0
	for _, g := range games(3000) {
		// Where there are very many permutations, they are not all tried.
		if len(g.Board.Next) > 4 && g.Board.Cells > 2 || g.Board.Cells > 6 {
			continue
		}
		l := sym.Find(g)
		if want := toldFound(g); fmt.Sprint(l) != fmt.Sprint(want) {
			t.Fatalf("%v: %v, not %v", g, l, want)
		}
		for _, s := range l[1:] {
			others++
			turning += min(1, slices.Compare(s.Dirs, l[0].Dirs))
		}
	}
	if others < 2000 || turning < 500 {
		t.Errorf("only %d, and %d that turn directions", others, turning)
	}
}

// P11.1, P11.5: what is valid is told of any permutations, and of such that are changed in one place.
func TestToldValid(t *testing.T) {
	valid, not := 0, 0
	for pick, g := range games(3000) {
		l := sym.Find(g)
		for range 20 {
			s := l[pick(len(l))]
			s.Cells, s.Dirs = slices.Clone(s.Cells), slices.Clone(s.Dirs)
			for _, part := range [][]int{s.Cells, s.Dirs} {
				if pick(2) == 0 {
					i, j := pick(len(part)), pick(len(part))
					part[i], part[j] = part[j], part[i]
				}
				if pick(8) == 0 {
					part[pick(len(part))] = pick(len(part)+2) - 1
				}
			}
			got := sym.Valid(g, s)
			if got != toldValid(g, s) {
				t.Fatalf("%v, %v: %v", g, s, got)
			}
			if got {
				valid++
			} else {
				not++
			}
		}
	}
	if min(valid, not) < 10000 {
		t.Errorf("only %d are valid, and %d are not", valid, not)
	}
}

// P11.2: the symmetries are a group.
func TestGroup(t *testing.T) {
	count := 0
	for _, g := range games(3000) {
		l := sym.Find(g)
		has := func(s api.Sym) bool {
			return sym.Valid(g, s) && slices.ContainsFunc(l, func(r api.Sym) bool { return slices.Equal(r.Cells, s.Cells) })
		}
		if len(l) == 0 || !slices.IsSorted(l[0].Cells) || !slices.IsSorted(l[0].Dirs) {
			t.Fatalf("%v: no identity: %v", g, l)
		}
		if len(l) > 24 {
			continue
		}
		for _, a := range l {
			if !has(sym.Inverse(a)) {
				t.Fatalf("%v: no inverse of %v", g, a)
			}
			for _, b := range l {
				if !has(sym.Compose(a, b)) {
					t.Fatalf("%v: not %v and then %v", g, a, b)
				}
				count++
			}
		}
	}
	if count < 20000 {
		t.Errorf("only %d pairs", count)
	}
}

// P11.3: the moves from an image are the images of the moves, and it is over with the same result.
func TestMoves(t *testing.T) {
	moves, ends := 0, 0
	for g, all := range images(3000) {
		for s, p := range all {
			q := sym.Apply(s, p)
			if !pos.Valid(g, q) {
				t.Fatalf("%v, %v, %v: %v is not valid", g, s, p, q)
			}
			var want []api.Pos
			for _, r := range play.Moves(g, p) {
				want = append(want, sym.Apply(s, r))
			}
			if got := play.Moves(g, q); specimen.Texts(g, got) != specimen.Texts(g, pos.Sort(want)) {
				t.Fatalf("%v, %v, %v: the moves %s", g, s, p, specimen.Texts(g, got))
			}
			out, over := play.Status(g, p)
			if got, end := play.Status(g, q); got != out || end != over {
				t.Fatalf("%v, %v, %v: %v, %v", g, s, p, got, end)
			}
			moves += len(want)
			ends += min(1, out)
		}
	}
	if moves < 10000 || ends < 1000 {
		t.Errorf("only %d moves and %d ends", moves, ends)
	}
}

// P11.1, P11.4: the least image is the least of all; it is the same for all images, and its own.
func TestLeast(t *testing.T) {
	moved := 0
	for g, all := range images(1000) {
		l := sym.Find(g)
		for s, p := range all {
			least, i := sym.Canon(l, p)
			if i < 0 || pos.Compare(sym.Apply(l[i], p), least) != 0 {
				t.Fatalf("%v, %v: %v, %d", g, p, least, i)
			}
			for j, r := range l {
				if n := pos.Compare(sym.Apply(r, p), least); n < 0 || n == 0 && j < i {
					t.Fatalf("%v, %v: %v, %d, not %d", g, p, least, i, j)
				}
			}
			if q, _ := sym.Canon(l, sym.Apply(s, p)); pos.Compare(q, least) != 0 {
				t.Fatalf("%v, %v, %v: %v, not %v", g, s, p, q, least)
			}
			if q, j := sym.Canon(l, least); pos.Compare(q, least) != 0 || j != 0 {
				t.Fatalf("%v, %v: %v, %d, not %v", g, p, q, j, least)
			}
			moved += min(1, i)
		}
	}
	if moved < 1000 {
		t.Errorf("only %d are not the least themselves", moved)
	}
}

// P11.1, P11.6: the image has what the position has, elsewhere; images of images are those by what is composed, and the inverse takes an image back. This holds for all permutations.
func TestComposition(t *testing.T) {
	r := rand.New(rand.NewPCG(3, 4))
	for g, p := range specimen.Samples(r.IntN, 500, 8) {
		n, d := g.Board.Cells, len(g.Board.Next)
		a, b := symOf(r.Perm(n), r.Perm(d)), symOf(r.Perm(n), r.Perm(d))
		q := sym.Apply(a, p)
		same := specimen.Copied(q)
		for c, content := range p.At {
			if q.At[a.Cells[c]] != content {
				t.Fatalf("%v, %v: %v", a, p, q)
			}
		}
		if same.At = p.At; pos.Compare(same, p) != 0 {
			t.Fatalf("%v, %v: %v", a, p, q)
		}
		both := sym.Compose(a, b)
		if pos.Compare(sym.Apply(b, q), sym.Apply(both, p)) != 0 {
			t.Fatalf("%v, %v, %v: %v", a, b, p, both)
		}
		if pos.Compare(sym.Apply(sym.Inverse(a), q), p) != 0 {
			t.Fatalf("%v, %v: %v", a, p, sym.Inverse(a))
		}
		for e := range d {
			if both.Dirs[e] != b.Dirs[a.Dirs[e]] || sym.Inverse(a).Dirs[a.Dirs[e]] != e {
				t.Fatalf("%v, %v: %v, %v", a, b, both, sym.Inverse(a))
			}
		}
	}
}

// P11.7: the positions that can be reached from an image are the images of those that can be reached, with the same results, also where a play that does not end counts.
func TestResults(t *testing.T) {
	solved, drawn := 0, 0
	for g, all := range images(60) {
		for s, p := range all {
			l, e := solve.All(g, p)
			if e != api.OK || len(l) > 300 {
				continue
			}
			m, e := solve.All(g, sym.Apply(s, p))
			if e != api.OK || len(m) != len(l) {
				t.Fatalf("%v, %v, %v: %d positions, not %d: %v", g, s, p, len(m), len(l), e)
			}
			v, e1 := solve.Values(g, l)
			f, e2 := solve.Final(g, l)
			w, e3 := solve.Values(g, m)
			h, e4 := solve.Final(g, m)
			if max(e1, e2, e3, e4) != api.OK {
				t.Fatal(e1, e2, e3, e4)
			}
			for i, q := range l {
				j := pos.Find(m, sym.Apply(s, q))
				if j < 0 || v[i] != w[j] || f[i] != h[j] {
					t.Fatalf("%v, %v, %v: %d is %v, %d, not %d", g, s, q, i, v[i], f[i], j)
				}
				if v[i].N > 0 {
					solved++
				} else if v[i].Out == api.Draw {
					drawn++
				}
			}
		}
	}
	if min(solved, drawn) < 1000 {
		t.Errorf("only %d are won or lost, and %d drawn", solved, drawn)
	}
}
