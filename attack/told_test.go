package attack_test

import (
	"iter"
	"maps"
	"math/rand/v2"
	"reflect"
	"slices"
	"testing"

	"skewer/api"
	"skewer/attack"
	"skewer/board"
	"skewer/game"
	"skewer/play"
	"skewer/pos"
	"skewer/run"
	"skewer/specimen"
)

// toldLines returns the lines of the man on the cell, as the chapter tells them.
func toldLines(t *testing.T, g api.Game, p api.Pos, cell int) api.Lines {
	t.Helper()
	kind, side := game.Man(p.At[cell])
	p.Side = side
	reads, takes := map[int]bool{cell: true}, map[int]bool{}
	for i := range g.Kinds[kind].Progs {
		cells, e := run.Reads(g, p, cell, i)
		outcomes, e1 := run.Runs(g, p, cell, i)
		if e != api.OK || e1 != api.OK {
			t.Fatalf("%v, %v, %d, %d: %v, %v", g, p, cell, i, e, e1)
		}
		for _, c := range cells {
			reads[c] = true
		}
		for _, o := range outcomes {
			for c, content := range p.At {
				if _, owner := game.Man(content); o.Took && owner == 1-side && o.Pos.At[c] != content {
					takes[c] = true
				}
			}
		}
	}
	return api.Lines{Cell: cell, Reads: slices.Sorted(maps.Keys(reads)), Takes: slices.Sorted(maps.Keys(takes))}
}

// toldMen returns the lines of all men, as the chapter tells them.
func toldMen(t *testing.T, g api.Game, p api.Pos) []api.Lines {
	t.Helper()
	var all []api.Lines
	for cell, content := range p.At {
		if content != 0 {
			all = append(all, toldLines(t, g, p, cell))
		}
	}
	return all
}

// toldStale returns the cells of the men that are concerned by a change, as the chapter tells them.
func toldStale(t *testing.T, g api.Game, p, q api.Pos) []int {
	t.Helper()
	var cells []int
	for cell, content := range q.At {
		if content == 0 {
			continue
		}
		concerned := p.At[cell] != content || p.Rights != q.Rights || !reflect.DeepEqual(p.Hand, q.Hand)
		if !concerned {
			for _, c := range toldLines(t, g, p, cell).Reads {
				concerned = concerned || p.At[c] != q.At[c]
			}
		}
		if concerned {
			cells = append(cells, cell)
		}
	}
	return cells
}

// sameLines reports whether both are the same. Nil and empty lists are.
func sameLines(a, b api.Lines) bool {
	return a.Cell == b.Cell && slices.Equal(a.Reads, b.Reads) && slices.Equal(a.Takes, b.Takes)
}

// sameAttack reports whether both are the same.
func sameAttack(a, b api.Attack) bool {
	return pos.Compare(a.Pos, b.Pos) == 0 && slices.EqualFunc(a.Men, b.Men, sameLines)
}

// checkRight checks that an attack is right, with the position p.
func checkRight(t *testing.T, g api.Game, p api.Pos, a api.Attack) {
	t.Helper()
	if want := (api.Attack{Pos: p, Men: toldMen(t, g, p)}); !sameAttack(a, want) {
		t.Fatalf("%v: %v, not %v", g, a, want)
	}
}

// samples yields valid games, with many of their positions. They are the same ones each time.
func samples() iter.Seq2[api.Game, api.Pos] {
	return specimen.Samples(rand.New(rand.NewPCG(1, 2)).IntN, 1000, 8)
}

// changed returns p with few other contents or none, and sometimes with another turn, other rights or another hand.
func changed(pick specimen.Pick, g api.Game, p api.Pos) api.Pos {
	q, other := specimen.Copied(p), specimen.Pos(pick, g)
	for range pick(4) {
		c := pick(len(q.At))
		q.At[c] = other.At[pick(len(q.At))]
	}
	switch pick(12) {
	case 0:
		q.Rights = other.Rights
	case 1:
		q.Hand[0] = other.Hand[0]
	case 2:
		q.Hand[1] = other.Hand[1]
	case 3, 4, 5:
		q.Side = other.Side
	}
	return q
}

// P10.1, P10.7: the lines are those that the chapter tells, of each man, and of nothing else.
func TestTold(t *testing.T) {
	men, taking := 0, 0
	for g, p := range samples() {
		a := attack.Make(g, p)
		checkRight(t, g, p, a)
		for _, l := range a.Men {
			men++
			taking += min(1, len(l.Takes))
		}
	}
	if men < 10000 || taking < 1000 {
		t.Errorf("only %d men, and %d that take", men, taking)
	}
}

// P10.1, P10.3: the men that are concerned are those that the chapter tells; the others have the same lines, and the updated attack is the one that is made anew.
func TestChanges(t *testing.T) {
	pick := rand.New(rand.NewPCG(3, 4)).IntN
	stale, spared, other := 0, 0, 0
	for g, p := range samples() {
		a, q := attack.Make(g, p), changed(pick, g, p)
		got := attack.Stale(g, a, q)
		if want := toldStale(t, g, p, q); !slices.Equal(got, want) {
			t.Fatalf("%v, %v, then %v: %v, not %v", g, p, q, got, want)
		}
		for _, l := range toldMen(t, g, q) {
			same := slices.ContainsFunc(a.Men, func(m api.Lines) bool { return sameLines(l, m) })
			switch concerned := slices.Contains(got, l.Cell); {
			case concerned && same:
				stale++
			case concerned:
				other++
			case same:
				spared++
			default:
				t.Fatalf("%v, %v, then %v: %v without %v", g, p, q, got, l)
			}
		}
		checkRight(t, g, q, attack.Update(g, a, q))
	}
	if min(stale, spared, other) < 1000 {
		t.Errorf("only %d are concerned, but the same, %d are spared, and %d are others", stale, spared, other)
	}
}

// P10.1, P10.3: the same for changes of everything.
func TestAnyChange(t *testing.T) {
	pick := rand.New(rand.NewPCG(5, 6)).IntN
	for g, p := range samples() {
		q, a := specimen.Pos(pick, g), attack.Make(g, p)
		if got, want := attack.Stale(g, a, q), toldStale(t, g, p, q); !slices.Equal(got, want) {
			t.Fatalf("%v, %v, then %v: %v, not %v", g, p, q, got, want)
		}
		checkRight(t, g, q, attack.Update(g, a, q))
	}
}

// P10.2: a man reads and takes the same with other contents of the cells that it does not read, and with another turn.
func TestReading(t *testing.T) {
	pick := rand.New(rand.NewPCG(7, 8)).IntN
	count := 0
	for g, p := range samples() {
		for _, l := range attack.Make(g, p).Men {
			q, other := specimen.Copied(p), specimen.Pos(pick, g)
			q.Side = other.Side
			for c := range q.At {
				if !slices.Contains(l.Reads, c) {
					q.At[c] = other.At[c]
				}
			}
			a := attack.Make(g, q)
			if !slices.ContainsFunc(a.Men, func(m api.Lines) bool { return sameLines(l, m) }) {
				t.Fatalf("%v, %v and %v: %v without %v", g, p, q, a, l)
			}
			if pos.Compare(p, q) != 0 {
				count++
			}
		}
	}
	if count < 3000 {
		t.Errorf("only %d others", count)
	}
}

// captures reports whether some move from p takes a man of the other side away.
func captures(g api.Game, p api.Pos) bool {
	count := func(p, q api.Pos) int {
		n := 0
		for _, k := range pos.Count(g, q, 1-p.Side) {
			n += k
		}
		return n
	}
	return slices.ContainsFunc(play.Moves(g, p), func(q api.Pos) bool { return count(p, q) < count(p, p) })
}

// P10.4: what a man takes is a man of the other side, on a cell that it reads; and its side has a move that captures, unless a clause holds.
func TestTaking(t *testing.T) {
	count := 0
	for g, p := range samples() {
		free := g
		free.Clauses = nil
		var taking [2]bool
		for _, l := range attack.Make(g, p).Men {
			_, side := game.Man(p.At[l.Cell])
			for _, c := range l.Takes {
				if _, owner := game.Man(p.At[c]); owner != 1-side || !slices.Contains(l.Reads, c) {
					t.Fatalf("%v, %v: %v takes %d", g, p, l, c)
				}
				taking[side] = true
				count++
			}
		}
		for side, takes := range taking {
			p.Side = side
			_, over := play.Status(g, p)
			if takes && (!captures(free, p) || !over && !captures(g, p)) {
				t.Fatalf("%v, %v: no capture", g, p)
			}
		}
	}
	if count < 1000 {
		t.Errorf("only %d are taken", count)
	}
}

// P10.1, P10.5: the men that take a cell are counted by sides; none take one of their own side, or an empty one.
func TestCounting(t *testing.T) {
	counted := 0
	for g, p := range samples() {
		a, men := attack.Make(g, p), toldMen(t, g, p)
		for cell := -2; cell < len(p.At)+2; cell++ {
			for side := -2; side < 4; side++ {
				want := 0
				for _, l := range men {
					if _, owner := game.Man(p.At[l.Cell]); owner == side && slices.Contains(l.Takes, cell) {
						want++
					}
				}
				got := attack.On(a, cell, side)
				if got != want {
					t.Fatalf("%v, %v, the cell %d, the side %d: %d, not %d", g, p, cell, side, got, want)
				}
				if got == 0 {
					continue
				}
				if _, owner := game.Man(p.At[cell]); owner != 1-side {
					t.Fatalf("%v, %v, the cell %d: taken by the side %d", g, p, cell, side)
				}
				counted++
			}
		}
	}
	if counted < 1000 {
		t.Errorf("only %d cells are taken", counted)
	}
}

// checkPlay checks that through a play, the attack that is updated is right, and returns the number of moves.
func checkPlay(t *testing.T, g api.Game, l []api.Pos) int {
	t.Helper()
	a := attack.Make(g, l[0])
	for _, p := range l[1:] {
		a = attack.Update(g, a, p)
		checkRight(t, g, p, a)
		if made := attack.Make(g, p); !sameAttack(a, made) {
			t.Fatalf("%v, %v: %v, not %v", g, p, a, made)
		}
	}
	return len(l) - 1
}

// P10.6: through a play, the attack that is updated move by move is the one that is made anew.
func TestPlays(t *testing.T) {
	pick := rand.New(rand.NewPCG(9, 10)).IntN
	moves := 0
	for g, p := range samples() {
		var picks []int
		for range 6 {
			picks = append(picks, pick(1000))
		}
		moves += checkPlay(t, g, play.Walk(g, p, picks))
	}
	if moves < 10000 {
		t.Errorf("only %d moves", moves)
	}
}

// P10.6: the same on a large grid, with as many kinds and programs as there can be.
func TestGrid(t *testing.T) {
	b, e := board.Grid(8, 8)
	if e != api.OK {
		t.Fatal(e)
	}
	pick := rand.New(rand.NewPCG(11, 12)).IntN
	g := api.Game{Board: b, Rights: api.MaxRights, Blocked: api.Loss, Endless: api.Draw}
	for i := range api.MaxKinds {
		k := api.Kind{Name: string(rune('a' + i)), Keep: i%2 == 0}
		for d := range api.MaxProgs {
			op, other := api.Go+(i+d)%2, api.Go+i/2%2
			to, on := api.Step{Op: op, N: d}, api.Step{Op: other, N: (d + i) % 8}
			ways := []api.Prog{{to}, {to, {Op: api.Take}}, {to, on, {Op: api.Take}}, {to, {Op: api.Take}, on}}
			k.Progs = append(k.Progs, ways[(i+d)%4])
		}
		g.Kinds = append(g.Kinds, k)
	}
	if !game.Valid(g) {
		t.Fatal("not valid:", g)
	}
	for range 8 {
		var picks []int
		for range 12 {
			picks = append(picks, pick(10000))
		}
		if l := play.Walk(g, specimen.Pos(pick, g), picks); checkPlay(t, g, l) < 12 {
			t.Errorf("only %s", specimen.Texts(g, l))
		}
	}
}
