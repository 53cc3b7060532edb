package run_test

import (
	"fmt"
	"maps"
	"math/rand/v2"
	"slices"
	"testing"

	"skewer/api"
	"skewer/game"
	"skewer/pos"
	"skewer/prog"
	"skewer/run"
	"skewer/specimen"
)

// told collects what the chapter tells of the ways of a man: each of them is followed by itself.
type told struct {
	g        api.Game
	outcomes map[string]bool
	reads    map[int]bool
}

// telling follows all ways of a man.
func telling(x sample) told {
	t := told{x.g, map[string]bool{}, map[int]bool{}}
	kind, _ := game.Man(x.p.At[x.cell])
	p := specimen.Copied(x.p)
	p.At[x.cell] = 0
	t.follow(p, x.cell, kind, false, x.steps())
	return t
}

// to returns the next cell in a direction, or -1.
func (t told) to(side, d, c int) int {
	if side == 1 {
		d = t.g.Board.Turn[d]
	}
	return t.g.Board.Next[d][c]
}

// follow follows the ways that are left.
func (t told) follow(p api.Pos, c, kind int, took bool, steps api.Prog) {
	p = specimen.Copied(p)
	t.reads[c] = true
	if len(steps) == 0 {
		if p.At[c] == 0 {
			p.At[c] = 1 + 2*kind + p.Side
			p.Side = 1 - p.Side
			t.outcomes[fmt.Sprint(api.Outcome{Pos: p, Took: took})] = true
		}
		return
	}
	n, rest := steps[0].N, steps[1:]
	can, owner := true, -1
	if p.At[c] > 0 {
		owner = (p.At[c] - 1) % 2
	}
	switch steps[0].Op {
	case api.Go:
		c = t.to(p.Side, n, c)
		can = c >= 0
	case api.Slide:
		t.slide(p, c, kind, took, steps)
		return
	case api.Empty:
		can = owner == -1
	case api.Enemy:
		can = owner == 1-p.Side
	case api.Friend:
		can = owner == p.Side
	case api.Take:
		can = owner == 1-p.Side && t.take(p, c)
		took = true
	case api.Push:
		can = owner >= 0 && t.push(p, c, t.to(p.Side, n, c))
	case api.Become:
		kind = n
	case api.Need:
		can = p.Rights>>n%2 == 1
	case api.Lose:
		if p.Rights>>n%2 == 1 {
			p.Rights -= 1 << n
		}
	}
	if can {
		t.follow(p, c, kind, took, rest)
	}
}

// slide follows a way for each cell of the line.
func (t told) slide(p api.Pos, c, kind int, took bool, steps api.Prog) {
	line := []int{c}
	for {
		next := t.to(p.Side, steps[0].N, line[len(line)-1])
		if next < 0 || slices.Contains(line, next) {
			return
		}
		t.follow(p, next, kind, took, steps[1:])
		if p.At[next] > 0 {
			return
		}
		line = append(line, next)
	}
}

// take takes the man on the cell away, if there is a place for it.
func (t told) take(p api.Pos, c int) bool {
	kind := (p.At[c] - 1) / 2
	if p.Hand[p.Side][kind] == 8 {
		return false
	}
	if t.g.Kinds[kind].Keep {
		p.Hand[p.Side][kind]++
	}
	p.At[c] = 0
	return true
}

// push puts the man on the cell on the next one, if it is there, and empty.
func (t told) push(p api.Pos, c, next int) bool {
	if next < 0 {
		return false
	}
	t.reads[next] = true
	if p.At[next] > 0 {
		return false
	}
	p.At[next] = p.At[c]
	p.At[c] = 0
	return true
}

// runs returns the outcomes of a man, which has to be one.
func runs(t *testing.T, x sample) []api.Outcome {
	t.Helper()
	l, e := run.Runs(x.g, x.p, x.cell, x.i)
	if e != api.OK {
		t.Fatalf("%v: %v", x, e)
	}
	return l
}

// reads returns the cells that a man reads, which has to be one.
func reads(t *testing.T, x sample) []int {
	t.Helper()
	l, e := run.Reads(x.g, x.p, x.cell, x.i)
	if e != api.OK {
		t.Fatalf("%v: %v", x, e)
	}
	return l
}

// set returns what is told about outcomes.
func set(l []api.Outcome) map[string]bool {
	all := map[string]bool{}
	for _, o := range l {
		all[fmt.Sprint(o)] = true
	}
	return all
}

// P5.1, P5.8: outcomes and cells that are read are those of all ways, if each of them is followed by itself.
func TestTold(t *testing.T) {
	count := 0
	for x := range samples() {
		want := telling(x)
		l := runs(t, x)
		count += len(l)
		if !maps.Equal(set(l), want.outcomes) {
			t.Fatalf("%v, %v: %v, not %v", x, x.steps(), l, want.outcomes)
		}
		if got := reads(t, x); !slices.Equal(got, slices.Sorted(maps.Keys(want.reads))) {
			t.Fatalf("%v, %v: %v, not %v", x, x.steps(), got, want.reads)
		}
	}
	if count < 10000 {
		t.Errorf("only %d outcomes", count)
	}
}

// P5.2: the mover has as many men as before, the other side lacks at most two, and those that are kept are in the hand.
func TestMen(t *testing.T) {
	for x := range samples() {
		me, other := x.p.Side, 1-x.p.Side
		for _, o := range runs(t, x) {
			if mine := men(x, x.p, me); mine != men(x, o.Pos, me) {
				t.Fatalf("%v: %v", x, o)
			}
			lost := men(x, x.p, other) - men(x, o.Pos, other)
			if lost < 0 || lost > 2 || (lost > 0) != o.Took {
				t.Fatalf("%v: %v", x, o)
			}
			before, after := pos.Count(x.g, x.p, other), pos.Count(x.g, o.Pos, other)
			for i, k := range x.g.Kinds {
				more := 0
				if k.Keep {
					more = before[i] - after[i]
				}
				if o.Pos.Hand[me][i] != x.p.Hand[me][i]+more || o.Pos.Hand[other][i] != x.p.Hand[other][i] {
					t.Fatalf("%v: %v", x, o)
				}
			}
		}
	}
}

// men returns how many men of a side are on the board.
func men(x sample, p api.Pos, side int) int {
	sum := 0
	for _, n := range pos.Count(x.g, p, side) {
		sum += n
	}
	return sum
}

// P5.3: outcomes are valid positions of the other side, in which no right came back; they are in order, and all different.
func TestPositions(t *testing.T) {
	for x := range samples() {
		l := runs(t, x)
		for i, o := range l {
			if !pos.Valid(x.g, o.Pos) || o.Pos.Side != 1-x.p.Side || o.Pos.Rights|x.p.Rights != x.p.Rights {
				t.Fatalf("%v: %v", x, o)
			}
			if i > 0 && pos.Compare(l[i-1].Pos, o.Pos) > 0 {
				t.Fatalf("%v: %v before %v", x, l[i-1], o)
			}
		}
		if len(set(l)) != len(l) {
			t.Fatalf("%v: %v", x, l)
		}
	}
}

// P5.4: with other contents of cells that are not read, the outcomes are the same ones but for these cells.
func TestReading(t *testing.T) {
	r := rand.New(rand.NewPCG(3, 4))
	for x := range samples() {
		l, cells := runs(t, x), reads(t, x)
		y := x
		y.p = specimen.Copied(x.p)
		for c := range y.p.At {
			if !slices.Contains(cells, c) {
				y.p.At[c] = r.IntN(2*len(x.g.Kinds) + 1)
			}
		}
		if !slices.Equal(reads(t, y), cells) {
			t.Fatalf("%v and %v: %v", x, y, cells)
		}
		want := map[string]bool{}
		for _, o := range l {
			o.Pos = specimen.Copied(o.Pos)
			for c := range o.Pos.At {
				if slices.Contains(cells, c) {
					continue
				}
				if o.Pos.At[c] != x.p.At[c] {
					t.Fatalf("%v: the cell %d is not read: %v", x, c, o)
				}
				o.Pos.At[c] = y.p.At[c]
			}
			want[fmt.Sprint(o)] = true
		}
		if got := set(runs(t, y)); !maps.Equal(got, want) {
			t.Fatalf("%v and %v: %v, not %v", x, y, got, want)
		}
	}
}

// exchanged returns p with the sides exchanged.
func exchanged(p api.Pos) api.Pos {
	p = specimen.Copied(p)
	for c, content := range p.At {
		kind, side := game.Man(content)
		p.At[c] = game.Code(kind, 1-side)
	}
	p.Hand[0], p.Hand[1] = p.Hand[1], p.Hand[0]
	p.Side = 1 - p.Side
	return p
}

// P5.5: a man of one side runs a program as one of the other side would run it with its directions turned.
func TestSides(t *testing.T) {
	for x := range samples() {
		y := x.with(prog.Turned(x.steps(), x.g.Board.Turn))
		y.p = exchanged(x.p)
		want := map[string]bool{}
		for _, o := range runs(t, x) {
			o.Pos = exchanged(o.Pos)
			want[fmt.Sprint(o)] = true
		}
		if got := set(runs(t, y)); !maps.Equal(got, want) {
			t.Fatalf("%v: %v, not %v", x, got, want)
		}
		if !slices.Equal(reads(t, x), reads(t, y)) {
			t.Fatalf("%v: %v and %v", x, reads(t, x), reads(t, y))
		}
	}
}

// P5.8: a condition at the end of a program leaves exactly the outcomes for which it holds.
func TestConditions(t *testing.T) {
	for x := range samples() {
		steps := x.steps()
		if len(steps) == api.MaxSteps {
			continue
		}
		all := runs(t, x)
		end := func(op, n int) []api.Outcome {
			return runs(t, x.with(append(slices.Clone(steps), api.Step{Op: op, N: n})))
		}
		if !maps.Equal(set(end(api.Empty, 0)), set(all)) {
			t.Fatalf("%v, then empty: %v", x, end(api.Empty, 0))
		}
		// The man that runs cannot be put down on another man.
		if len(end(api.Enemy, 0))+len(end(api.Friend, 0)) > 0 {
			t.Fatalf("%v, then enemy or friend", x)
		}
		for n := range x.g.Rights {
			var with []api.Outcome
			for _, o := range all {
				if o.Pos.Rights>>n%2 == 1 {
					with = append(with, o)
				}
			}
			if !maps.Equal(set(end(api.Need, n)), set(with)) {
				t.Fatalf("%v, then need%d: %v", x, n, end(api.Need, n))
			}
		}
	}
}
