package slice_test

import (
	"iter"
	"math/rand/v2"
	"slices"
	"testing"

	"skewer/api"
	"skewer/game"
	"skewer/play"
	"skewer/pos"
	"skewer/prog"
	"skewer/run"
	"skewer/slice"
	"skewer/solve"
	"skewer/specimen"
)

// games yields so many valid games with up to six kinds, many of which become others, each with the numbers to pick on. They are the same ones each time.
func games(t *testing.T, n int) iter.Seq2[specimen.Pick, api.Game] {
	t.Helper()
	return func(yield func(specimen.Pick, api.Game) bool) {
		pick := rand.New(rand.NewPCG(1, 2)).IntN
		for range n {
			g := withMore(pick, specimen.Game(pick))
			if !game.Valid(g) {
				t.Fatalf("not valid: %v", g)
			}
			if !yield(pick, g) {
				return
			}
		}
	}
}

// withMore returns g with further kinds, and with programs by which kinds become others.
func withMore(pick specimen.Pick, g api.Game) api.Game {
	for range pick(4) {
		g.Kinds = append(g.Kinds, api.Kind{Name: string(rune('a' + len(g.Kinds))), Keep: pick(2) == 0})
	}
	for range pick(2 * len(g.Kinds)) {
		kind := pick(len(g.Kinds))
		p := append(specimen.Prog(pick, g), api.Step{Op: api.Become, N: pick(len(g.Kinds))})
		if prog.Valid(p, len(g.Board.Next), len(g.Kinds), g.Rights) {
			g.Kinds[kind].Progs = append(g.Kinds[kind].Progs, p)
		}
	}
	g.Kinds = slices.Clone(g.Kinds)
	for i, k := range g.Kinds {
		g.Kinds[i].Progs = k.Progs[:min(len(k.Progs), api.MaxProgs)]
	}
	return g
}

// became returns the kind that a man of the kind is after the program.
func became(p api.Prog, kind int) int {
	for _, s := range p {
		if s.Op == api.Become {
			kind = s.N
		}
	}
	return kind
}

// toldLeads returns the kinds to which the kind leads, as the chapter tells them.
func toldLeads(g api.Game, kind int) []int {
	l := []int{kind}
	for i := 0; i < len(l); i++ {
		for _, p := range g.Kinds[l[i]].Progs {
			if other := became(p, l[i]); !slices.Contains(l, other) {
				l = append(l, other)
			}
		}
	}
	return l
}

// toldRight reports whether the measure is right for g, as the chapter tells it.
func toldRight(g api.Game, m api.Measure) bool {
	if len(m.Kinds) != len(g.Kinds) {
		return false
	}
	for kind, k := range g.Kinds {
		if m.Kinds[kind] < 1 || m.Kinds[kind] > 6 {
			return false
		}
		for _, p := range k.Progs {
			if m.Kinds[became(p, kind)] > m.Kinds[kind] {
				return false
			}
		}
	}
	return true
}

// toldLevel returns the level of p, as the chapter tells it.
func toldLevel(g api.Game, m api.Measure, p api.Pos) int {
	level := 0
	for side := range 2 {
		for kind, n := range pos.Count(g, p, side) {
			level += m.Kinds[kind] * (n + p.Hand[side][kind])
		}
	}
	return level + rights(p)
}

// rights returns the number of rights of p.
func rights(p api.Pos) int {
	n := 0
	for right := range api.MaxRights {
		n += p.Rights >> right % 2
	}
	return n
}

// measures returns the measure of g and other right ones; each right one may be among them.
func measures(pick specimen.Pick, g api.Game) []api.Measure {
	l := []api.Measure{slice.Of(g)}
	for range 3 {
		l = append(l, specimen.Measure(pick, g))
	}
	return l
}

// anyWeights returns so many weights.
func anyWeights(pick specimen.Pick, n int) []int {
	var l []int
	for range n {
		l = append(l, 1+pick(6))
	}
	return l
}

// positions returns so many valid positions of g.
func positions(pick specimen.Pick, g api.Game, n int) []api.Pos {
	var l []api.Pos
	for range n {
		l = append(l, specimen.Pos(pick, g))
	}
	return l
}

// P12.1, P12.5, P12.8: the measure of a game is what the chapter tells, and right; a kind has more than what it becomes if nothing leads back from that, and as much otherwise.
func TestMeasures(t *testing.T) {
	alone, less, same := 0, 0, 0
	for _, g := range games(t, 3000) {
		m := slice.Of(g)
		if !slice.Valid(g, m) || len(m.Kinds) != len(g.Kinds) {
			t.Fatalf("%v: %v is not right", g, m)
		}
		for kind, weight := range m.Kinds {
			lead := toldLeads(g, kind)
			if weight != len(lead) {
				t.Fatalf("%v: %v, not %d for the kind %d", g, m, len(lead), kind)
			}
			for _, other := range lead {
				back := slices.Contains(toldLeads(g, other), kind)
				switch {
				case other == kind:
					alone++
				case back && m.Kinds[other] == weight:
					same++
				case !back && m.Kinds[other] < weight:
					less++
				default:
					t.Fatalf("%v: %v, for the kinds %d and %d", g, m, kind, other)
				}
			}
		}
	}
	if min(alone, less, same) < 1000 {
		t.Errorf("only %d kinds, of which %d lead to others, and %d also back", alone, less, same)
	}
}

// P12.1, P12.5: those measures are valid that are right, as the chapter tells it; among them are all that the next tests use.
func TestRight(t *testing.T) {
	valid, refused := 0, 0
	for pick, g := range games(t, 3000) {
		for _, m := range measures(pick, g) {
			if !toldRight(g, m) || !slice.Valid(g, m) {
				t.Fatalf("%v: %v is not right", g, m)
			}
			other := api.Measure{Kinds: slices.Clone(m.Kinds)}
			switch pick(3) {
			case 0:
				other.Kinds = anyWeights(pick, len(g.Kinds)+pick(2))
			case 1:
				other.Kinds[pick(len(g.Kinds))] += pick(3) - 1
			case 2:
				other.Kinds[pick(len(g.Kinds))] = specimen.Edges()[pick(len(specimen.Edges()))]
			}
			want := toldRight(g, other)
			if slice.Valid(g, other) != want {
				t.Fatalf("%v: %v, not %t", g, other, want)
			}
			if want {
				valid++
			} else {
				refused++
			}
		}
	}
	if min(valid, refused) < 1000 {
		t.Errorf("only %d are valid, and %d refused", valid, refused)
	}
}

// P12.1, P12.6: levels are what the chapter tells; they are at least the number of men, and at most 6 times this, and 4 more.
func TestLevels(t *testing.T) {
	for pick, g := range games(t, 1000) {
		l := positions(pick, g, 4)
		for _, m := range measures(pick, g) {
			for i, p := range l {
				level, men := slice.Level(m, p), toldLevel(g, api.Measure{Kinds: slices.Repeat([]int{1}, len(g.Kinds))}, p)-rights(p)
				if want := toldLevel(g, m, p); level != want {
					t.Fatalf("%v, %v, %v: %d, not %d", g, m, p, level, want)
				}
				if level < men || level > 6*men+4 {
					t.Fatalf("%v, %v, %v: %d with %d men", g, m, p, level, men)
				}
				q := l[(i+1)%len(l)]
				if slice.Leaves(m, p, q) != (toldLevel(g, m, q) < level) {
					t.Fatalf("%v, %v, %v, %v: Leaves", g, m, p, q)
				}
			}
		}
	}
}

// P12.1, P12.4: the slices have each position once, with the same level in each, from the least one on, and in increasing order.
func TestCutting(t *testing.T) {
	several := 0
	for pick, g := range games(t, 1000) {
		l := positions(pick, g, pick(30))
		l = append(l, l[:pick(len(l)+1)]...)
		for _, m := range measures(pick, g) {
			count, before := make([]int, len(l)), -1
			for _, part := range slice.Cut(m, l) {
				if len(part) == 0 || !slices.IsSorted(part) {
					t.Fatalf("%v, %v, %v: %v", g, m, l, part)
				}
				level := toldLevel(g, m, l[part[0]])
				for _, i := range part {
					count[i]++
					if got := toldLevel(g, m, l[i]); got != level || level <= before {
						t.Fatalf("%v, %v, %v: %d among %d, after %d", g, m, l, got, level, before)
					}
				}
				before = level
				several += min(1, len(part)-1)
			}
			if !slices.Equal(count, slices.Repeat([]int{1}, len(l))) {
				t.Fatalf("%v, %v, %v: %v", g, m, l, count)
			}
		}
	}
	if several < 1000 {
		t.Errorf("only %d slices with several positions", several)
	}
}

// takesOther reports whether from p to q, the side that does not move loses a man whose kind is not kept.
func takesOther(g api.Game, p, q api.Pos) bool {
	before, after := pos.Count(g, p, 1-p.Side), pos.Count(g, q, 1-p.Side)
	for kind, k := range g.Kinds {
		if !k.Keep && after[kind] < before[kind] {
			return true
		}
	}
	return false
}

// P12.2, P12.3, P12.5: by no right measure does a move lead to a greater level; one that captures a man whose kind is not kept, or by which a right is lost, leaves the slice.
func TestProgress(t *testing.T) {
	moves, captures, lost := 0, 0, 0
	for pick, g := range games(t, 20000) {
		l := measures(pick, g)
		for _, p := range positions(pick, g, 4) {
			for _, q := range play.Moves(g, p) {
				took, fewer := takesOther(g, p, q), p.Rights != q.Rights
				for _, m := range l {
					if slice.Level(m, q) > slice.Level(m, p) || slice.Leaves(m, q, p) {
						t.Fatalf("%v, %v, %v, then %v: a greater level", g, m, p, q)
					}
					if (took || fewer) && !slice.Leaves(m, p, q) {
						t.Fatalf("%v, %v, %v, then %v: in the same slice", g, m, p, q)
					}
				}
				moves++
				if took {
					captures++
				}
				if fewer {
					lost++
				}
			}
		}
	}
	if min(moves, captures, lost) < 1000 {
		t.Errorf("only %d moves, %d captures, and %d rights lost", moves, captures, lost)
	}
}

// P12.1, P12.2, P12.8: what a program does makes the level less by what the man that runs has more than what it becomes, by the men that are captured and not kept, and by the rights that are lost; if it becomes one that does not lead back, it leaves the slice.
func TestChanges(t *testing.T) {
	changed, same := 0, 0
	for pick, g := range games(t, 6000) {
		l := measures(pick, g)
		for _, p := range positions(pick, g, 4) {
			for cell, content := range p.At {
				kind, side := game.Man(content)
				if side != p.Side {
					continue
				}
				for i, program := range g.Kinds[kind].Progs {
					outcomes, e := run.Runs(g, p, cell, i)
					if e != api.OK {
						t.Fatal(e)
					}
					for _, o := range outcomes {
						if checkChange(t, g, l, p, o.Pos, kind, became(program, kind)) {
							changed++
						} else {
							same++
						}
					}
				}
			}
		}
	}
	if min(changed, same) < 1000 {
		t.Errorf("only %d men become what does not lead back, and %d do not", changed, same)
	}
}

// checkChange checks the levels, by the measures, of p and of what follows when a man of the one kind becomes one of the other kind, and reports whether that does not lead back. The first measure has to be that of g.
func checkChange(t *testing.T, g api.Game, l []api.Measure, p, q api.Pos, kind, other int) bool {
	t.Helper()
	before, after := pos.Count(g, p, 1-p.Side), pos.Count(g, q, 1-p.Side)
	for _, m := range l {
		less := m.Kinds[kind] - m.Kinds[other] + rights(p) - rights(q)
		for i, k := range g.Kinds {
			if !k.Keep {
				less += m.Kinds[i] * (before[i] - after[i])
			}
		}
		if got := slice.Level(m, p) - slice.Level(m, q); got != less || less < 0 {
			t.Fatalf("%v, %v, %v, then %v: %d less, not %d", g, m, p, q, got, less)
		}
	}
	forever := !slices.Contains(toldLeads(g, other), kind)
	if forever && !slice.Leaves(l[0], p, q) {
		t.Fatalf("%v, %v, then %v: in the same slice", g, p, q)
	}
	return forever
}

// P12.2, P12.5, P12.7: by no right measure does a play lead from a slice to a position with a greater level; so none leads back to a slice that was left.
func TestReturning(t *testing.T) {
	lists, lower := 0, 0
	for pick, g := range games(t, 1500) {
		l, e := solve.All(g, specimen.Pos(pick, g))
		if e != api.OK || len(l) > 600 {
			continue
		}
		next, e := solve.Next(g, l)
		if e != api.OK {
			t.Fatal(e)
		}
		lists++
		for _, m := range measures(pick, g) {
			for _, part := range slice.Cut(m, l) {
				for _, i := range reached(next, part) {
					if slice.Leaves(m, l[i], l[part[0]]) {
						t.Fatalf("%v, %v: a play leads from %v to %v", g, m, l[part[0]], l[i])
					}
					if slice.Leaves(m, l[part[0]], l[i]) {
						lower++
					}
				}
			}
		}
	}
	if min(lists, lower) < 500 {
		t.Errorf("only %d lists, and %d positions in lower slices", lists, lower)
	}
}

// reached returns the indices to which plays from those of the part lead.
func reached(next [][]int, part []int) []int {
	l, seen := slices.Clone(part), make([]bool, len(next))
	for _, i := range part {
		seen[i] = true
	}
	for i := 0; i < len(l); i++ {
		for _, to := range next[l[i]] {
			if !seen[to] {
				seen[to] = true
				l = append(l, to)
			}
		}
	}
	return l
}
