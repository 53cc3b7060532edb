package check_test

import (
	"fmt"
	"iter"
	"math/rand/v2"
	"slices"
	"testing"

	"skewer/api"
	"skewer/attack"
	"skewer/back"
	"skewer/check"
	"skewer/game"
	"skewer/gen"
	"skewer/play"
	"skewer/pos"
	"skewer/solve"
	"skewer/specimen"
	"skewer/sym"
)

// textsOf returns the texts of positions, in order.
func textsOf(g api.Game, l []api.Pos) []string {
	var all []string
	for _, p := range l {
		all = append(all, pos.Print(g, p))
	}
	slices.Sort(all)
	return all
}

// toldBackward reports whether going back is wrong at p, as the chapter tells it.
func toldBackward(g api.Game, p api.Pos) bool {
	for _, q := range play.Moves(g, p) {
		if l, e := back.Back(g, q); e == api.OK && !slices.Contains(textsOf(g, l), pos.Print(g, p)) {
			return true
		}
	}
	l, _ := back.Back(g, p)
	for _, q := range l {
		if !slices.Contains(textsOf(g, play.Moves(g, q)), pos.Print(g, p)) {
			return true
		}
	}
	return false
}

// toldAttacks reports whether lines are wrong at p, as the chapter tells it.
func toldAttacks(g api.Game, p api.Pos) bool {
	for _, q := range play.Moves(g, p) {
		updated := attack.Update(g, attack.Make(g, p), q)
		if fmt.Sprint(updated.Men) != fmt.Sprint(attack.Make(g, q).Men) {
			return true
		}
	}
	return false
}

// toldImage returns the image of p, as layer 11 tells it.
func toldImage(s api.Sym, p api.Pos) api.Pos {
	q := specimen.Copied(p)
	for c, content := range p.At {
		q.At[s.Cells[c]] = content
	}
	return q
}

// toldSymmetry reports whether the symmetries are wrong at p, as the chapter tells it.
func toldSymmetry(g api.Game, l []api.Sym, p api.Pos) bool {
	for _, s := range l {
		if !sym.Valid(g, s) {
			return true
		}
		var images []api.Pos
		for _, q := range play.Moves(g, p) {
			images = append(images, toldImage(s, q))
		}
		image := toldImage(s, p)
		out, over := play.Status(g, p)
		n, end := play.Status(g, image)
		if n != out || end != over || !slices.Equal(textsOf(g, images), textsOf(g, play.Moves(g, image))) {
			return true
		}
	}
	return false
}

// toldRight reports whether m is right, as layer 12 tells it.
func toldRight(g api.Game, m api.Measure) bool {
	if len(m.Kinds) != len(g.Kinds) {
		return false
	}
	for i, k := range g.Kinds {
		if m.Kinds[i] < 1 || m.Kinds[i] > api.MaxKinds {
			return false
		}
		for _, p := range k.Progs {
			for _, s := range p {
				if s.Op == api.Become && m.Kinds[s.N] > m.Kinds[i] {
					return false
				}
			}
		}
	}
	return true
}

// toldLevel returns the level of p, as layer 12 tells it.
func toldLevel(m api.Measure, p api.Pos) int {
	level := 0
	for _, content := range p.At {
		if kind, _ := game.Man(content); content > 0 {
			level += m.Kinds[kind]
		}
	}
	for kind, weight := range m.Kinds {
		level += weight * (p.Hand[0][kind] + p.Hand[1][kind])
	}
	for n := range api.MaxRights {
		level += p.Rights >> n & 1
	}
	return level
}

// toldProgress reports whether the measure is wrong at p, as the chapter tells it.
func toldProgress(g api.Game, m api.Measure, p api.Pos) bool {
	if !toldRight(g, m) {
		return true
	}
	return slices.ContainsFunc(play.Moves(g, p), func(q api.Pos) bool { return toldLevel(m, q) > toldLevel(m, p) })
}

// toldFault returns the first part in which d is wrong at p, as the chapter tells it, or 0.
func toldFault(g api.Game, d api.Derived, p api.Pos) int {
	switch {
	case !slices.Equal(textsOf(g, gen.Moves(g, d.Code, p)), textsOf(g, play.Moves(g, p))):
		return api.Forward
	case toldBackward(g, p):
		return api.Backward
	case toldAttacks(g, p):
		return api.Attacks
	case toldSymmetry(g, d.Syms, p):
		return api.Symmetry
	case toldProgress(g, d.Measure, p):
		return api.Progress
	}
	return 0
}

// games yields valid games, many of which have symmetries. They are the same ones each time.
func games(n int) iter.Seq2[*rand.Rand, api.Game] {
	return func(yield func(*rand.Rand, api.Game) bool) {
		r := rand.New(rand.NewPCG(1, 2))
		for range n {
			g := specimen.Game(r.IntN)
			if r.IntN(2) == 0 {
				g = specimen.Even(g)
			}
			if !yield(r, g) {
				return
			}
		}
	}
}

// positions returns some positions of g, in any order, some of them perhaps several times, and some after moves.
func positions(r *rand.Rand, g api.Game, n int) []api.Pos {
	l := []api.Pos{specimen.Pos(r.IntN, g)}
	for len(l) < n {
		p := specimen.Pos(r.IntN, g)
		if r.IntN(3) == 0 {
			p = l[r.IntN(len(l))]
		}
		l = append(l, play.Walk(g, p, []int{r.IntN(100), r.IntN(100)})...)
	}
	return l[:n]
}

// changeCode changes some paths of men of the positions l in the code, which still fits then.
func changeCode(r *rand.Rand, g api.Game, c api.Code, l []api.Pos) {
	for range 2 + r.IntN(6) {
		p := l[r.IntN(len(l))]
		cell := r.IntN(g.Board.Cells)
		kind, side := game.Man(p.At[cell])
		if side != p.Side {
			continue
		}
		kinds := c.Paths[side]
		l := kinds[kind][cell]
		other := kinds[kind][r.IntN(len(kinds[kind]))]
		switch i := r.IntN(len(l) + 1); {
		case i == len(l):
			kinds[kind][cell] = slices.Concat(l, other)
		case r.IntN(3) == 0:
			l[i].To = r.IntN(g.Board.Cells)
		case r.IntN(2) == 0 && len(l[i].Acts) > 0:
			l[i].Acts = slices.Delete(slices.Clone(l[i].Acts), 0, 1)
		default:
			kinds[kind][cell] = slices.Delete(slices.Clone(l), i, i+1)
		}
	}
}

// otherSyms returns some of the symmetries l, with permutations that may be none.
func otherSyms(r *rand.Rand, g api.Game, l []api.Sym) []api.Sym {
	if len(l) > 0 && r.IntN(3) == 0 {
		return l[r.IntN(len(l)):]
	}
	s := api.Sym{Cells: r.Perm(g.Board.Cells), Dirs: r.Perm(len(g.Board.Next))}
	if r.IntN(4) == 0 {
		s.Cells[0] = r.IntN(g.Board.Cells)
	}
	return slices.Insert(slices.Clone(l), r.IntN(len(l)+1), s)
}

// otherWeights returns weights, some of which may be outside of their range; and sometimes too many or too few.
func otherWeights(r *rand.Rand, g api.Game) api.Measure {
	var m api.Measure
	for range len(g.Kinds) + max(0, r.IntN(8)-6) {
		m.Kinds = append(m.Kinds, min(1+r.IntN(3), r.IntN(30)))
	}
	if r.IntN(8) == 0 {
		m.Kinds = m.Kinds[1:]
	}
	if r.IntN(8) == 0 && len(m.Kinds) > 0 {
		m.Kinds[0] = 5 + r.IntN(3)
	}
	return m
}

// changed returns what is derived from g, with changes of some parts: it is the number n that says of which.
func changed(r *rand.Rand, g api.Game, l []api.Pos, n int) api.Derived {
	d := check.Derive(g)
	if n%6 < 5 {
		changeCode(r, g, d.Code, l)
	}
	if n%4 == 1 {
		d.Syms = otherSyms(r, g, d.Syms)
	}
	if n%3 == 2 {
		d.Measure = otherWeights(r, g)
	}
	return d
}

// P13.1, P13.3, P13.6: what is found after changes of what is derived is what the chapter tells; nothing is found before it, and what comes after it makes no difference.
func TestTold(t *testing.T) {
	counts := map[int]int{}
	later := 0
	for r, g := range games(220) {
		for n := range 6 {
			l := positions(r, g, 6)
			d := changed(r, g, l, n)
			want, at := 0, 0
			for i, p := range l {
				if want = toldFault(g, d, p); want > 0 {
					at = i
					break
				}
			}
			f, ok := check.Check(g, d, l)
			counts[f.Part]++
			if ok != (want == 0) || f.Part != want || !ok && pos.Compare(f.Pos, l[at]) != 0 {
				t.Fatalf("%v, %v, %v: %v, %v, not %d at %d", g, d, l, f, ok, want, at)
			}
			if ok {
				continue
			}
			later += min(1, at)
			if f, ok := check.Check(g, d, l[:at]); !ok {
				t.Fatalf("%v, %v, %v: %v", g, d, l[:at], f)
			}
			for _, part := range [][]api.Pos{l[:at+1], l[at:], {l[at]}} {
				if f, ok := check.Check(g, d, part); ok || f.Part != want || pos.Compare(f.Pos, l[at]) != 0 {
					t.Fatalf("%v, %v, %v: %v, %v", g, d, part, f, ok)
				}
			}
		}
	}
	if min(counts[0], counts[api.Forward], counts[api.Symmetry], counts[api.Progress], later) < 50 {
		t.Errorf("only %v, and %d at later positions", counts, later)
	}
}

// P13.2: each game is accepted, from each position for which solve.All returns no error, with what is derived from it.
func TestAccepted(t *testing.T) {
	accepted, big, symmetries, moves := 0, 0, 0, 0
	for r, g := range games(400) {
		p := specimen.Pos(r.IntN, g)
		l, e := solve.All(g, p)
		if len(l) > 300 {
			continue
		}
		d, f, e1 := check.Accept(g, p)
		want := api.Derived{}
		if e == api.OK {
			want = check.Derive(g)
			accepted++
			symmetries += len(d.Syms) - 1
			moves += len(l) - 1
		} else {
			big++
		}
		if e1 != e || f.Part != 0 || fmt.Sprint(d) != fmt.Sprint(want) {
			t.Fatalf("%v, %v: %v, %v, %v", g, p, d, f, e1)
		}
		if f, ok := check.Check(g, check.Derive(g), l); !ok {
			t.Fatalf("%v, %v: %v", g, p, f)
		}
	}
	if accepted < 200 || big < 5 || symmetries < 20 || moves < 3000 {
		t.Errorf("only %d are accepted, %d too big, with %d symmetries and %d moves", accepted, big, symmetries, moves)
	}
}

// P13.3: a code in which paths are missing, or are others, is found out at the first position at which it gives other moves, and at no other one.
func TestCodes(t *testing.T) {
	found, not := 0, 0
	for r, g := range games(1500) {
		d, l := check.Derive(g), positions(r, g, 3)
		changeCode(r, g, d.Code, l)
		differs := func(p api.Pos) bool {
			return !slices.Equal(textsOf(g, gen.Moves(g, d.Code, p)), textsOf(g, play.Moves(g, p)))
		}
		f, ok := check.Check(g, d, l)
		if i := slices.IndexFunc(l, differs); i < 0 {
			not++
			if !ok {
				t.Fatalf("%v, %v, %v: %v", g, d, l, f)
			}
		} else if found++; ok || f.Part != api.Forward || pos.Compare(f.Pos, l[i]) != 0 {
			t.Fatalf("%v, %v, %v: %v, %v, not at %d", g, d, l, f, ok, i)
		}
	}
	if min(found, not) < 100 {
		t.Errorf("only %d are found out, and %d are not", found, not)
	}
}

// checkFirst checks that a part is found out at the first of some positions exactly if it is wrong; and nowhere, if there are none.
func checkFirst(t *testing.T, g api.Game, d api.Derived, l []api.Pos, part int, wrong bool) {
	t.Helper()
	f, ok := check.Check(g, d, l)
	if ok == wrong || wrong && (f.Part != part || pos.Compare(f.Pos, l[0]) != 0) {
		t.Fatalf("%v, %v, %v: %v, %v, not %v", g, d, l, f, ok, wrong)
	}
	if f, ok := check.Check(g, d, nil); !ok || f.Part != 0 {
		t.Fatalf("%v, %v, no positions: %v, %v", g, d, f, ok)
	}
}

// P13.4, P13.7: a list with something that is no symmetry is found out at the first position; in no positions, nothing is wrong.
func TestSyms(t *testing.T) {
	wrong, right := 0, 0
	for r, g := range games(600) {
		d := check.Derive(g)
		d.Syms = otherSyms(r, g, d.Syms)
		none := slices.ContainsFunc(d.Syms, func(s api.Sym) bool { return !sym.Valid(g, s) })
		checkFirst(t, g, d, positions(r, g, 3), api.Symmetry, none)
		if none {
			wrong++
		} else {
			right++
		}
	}
	if min(wrong, right) < 100 {
		t.Errorf("only %d are wrong, and %d are right", wrong, right)
	}
}

// P13.5, P13.7: if there is a position, a measure is found out exactly if it is not right.
func TestMeasures(t *testing.T) {
	wrong, right := 0, 0
	for r, g := range games(600) {
		d := check.Derive(g)
		d.Measure = otherWeights(r, g)
		not := !toldRight(g, d.Measure)
		checkFirst(t, g, d, positions(r, g, 3), api.Progress, not)
		if not {
			wrong++
		} else {
			right++
		}
	}
	if min(wrong, right) < 100 {
		t.Errorf("only %d are wrong, and %d are right", wrong, right)
	}
}
