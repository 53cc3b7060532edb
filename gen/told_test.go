package gen_test

import (
	"fmt"
	"iter"
	"maps"
	"math/rand/v2"
	"reflect"
	"slices"
	"testing"

	"skewer/api"
	"skewer/board"
	"skewer/gen"
	"skewer/play"
	"skewer/pos"
	"skewer/prog"
	"skewer/run"
	"skewer/specimen"
)

// told is what the chapter tells of the paths of one side.
type told struct {
	g    api.Game
	side int
}

// to returns the next cell in a direction, or -1.
func (t told) to(d, c int) int {
	if t.side == 1 {
		d = t.g.Board.Turn[d]
	}
	return t.g.Board.Next[d][c]
}

// line returns the cells to which one comes in a direction, up to the first one that was there before.
func (t told) line(d, c int) []int {
	line := []int{c}
	for {
		next := t.to(d, line[len(line)-1])
		if next < 0 || slices.Contains(line, next) {
			return line[1:]
		}
		line = append(line, next)
	}
}

// count returns, for each cell, how many paths the steps have from it, as a float, for which no number is too great.
func (t told) count(steps api.Prog) []float64 {
	n := make([]float64, t.g.Board.Cells)
	if len(steps) == 0 {
		return slices.Repeat([]float64{1}, len(n))
	}
	rest := t.count(steps[1:])
	for c := range n {
		switch to := c; steps[0].Op {
		case api.Slide:
			for _, to := range t.line(steps[0].N, c) {
				n[c] += rest[to]
			}
		case api.Go:
			if to = t.to(steps[0].N, c); to >= 0 {
				n[c] = rest[to]
			}
		case api.Push:
			if t.to(steps[0].N, c) >= 0 {
				n[c] = rest[c]
			}
		default:
			n[c] = rest[c]
		}
	}
	return n
}

// sum returns how many paths a program has from all cells.
func (t told) sum(p api.Prog) float64 {
	sum := 0.0
	for _, n := range t.count(p) {
		sum += n
	}
	return sum
}

// toldCount returns how many paths a game has.
func toldCount(g api.Game) float64 {
	sum := 0.0
	for side := range 2 {
		for _, k := range g.Kinds {
			for _, p := range k.Progs {
				sum += told{g, side}.sum(p)
			}
		}
	}
	return sum
}

// paths returns the paths that go on from the cursor with the steps, after the acts.
func (t told) paths(steps api.Prog, c int, acts []api.Act) []api.Path {
	if len(steps) == 0 {
		return []api.Path{{Acts: acts, To: c}}
	}
	op, n, rest := steps[0].Op, steps[0].N, steps[1:]
	with := func(a ...api.Act) []api.Act { return slices.Concat(acts, a) }
	switch op {
	case api.Go:
		if to := t.to(n, c); to >= 0 {
			return t.paths(rest, to, with())
		}
		return nil
	case api.Push:
		if to := t.to(n, c); to >= 0 {
			return t.paths(rest, c, with(api.Act{Op: op, A: c, B: to}))
		}
		return nil
	case api.Slide:
		var all []api.Path
		var before []api.Act
		for _, to := range t.line(n, c) {
			all = append(all, t.paths(rest, to, with(before...))...)
			before = append(before, api.Act{Op: api.Empty, A: to})
		}
		return all
	case api.Become, api.Need, api.Lose:
		return t.paths(rest, c, with(api.Act{Op: op, A: n}))
	}
	return t.paths(rest, c, with(api.Act{Op: op, A: c}))
}

// games yields valid games with up to so many paths. They are the same ones each time.
func games(n int, most float64) iter.Seq[api.Game] {
	return func(yield func(api.Game) bool) {
		pick := rand.New(rand.NewPCG(1, 2)).IntN
		for range n {
			if g := specimen.Game(pick); toldCount(g) <= most && !yield(g) {
				return
			}
		}
	}
}

// samples yields valid games with up to 5000 paths, and ten valid positions of each, which are the same ones each time; and the codes of the games.
func samples() iter.Seq2[sample, api.Pos] {
	return func(yield func(sample, api.Pos) bool) {
		pick := rand.New(rand.NewPCG(3, 4)).IntN
		for g := range games(2500, 5000) {
			x := sample{g, gen.Compile(g)}
			for range 10 {
				if !yield(x, specimen.Pos(pick, g)) {
					return
				}
			}
		}
	}
}

// sample is a game with a code.
type sample struct {
	g api.Game
	c api.Code
}

// checkCode checks that the code of a game has the paths that the chapter tells of, and as many, and returns their number.
func checkCode(t *testing.T, g api.Game) int {
	t.Helper()
	c := gen.Compile(g)
	if n := gen.Count(c); float64(n) != toldCount(g) {
		t.Fatalf("%v: %d paths, not %v", g, n, toldCount(g))
	}
	for side, kinds := range c.Paths {
		if len(kinds) != len(g.Kinds) {
			t.Fatalf("%v: %d kinds", g, len(kinds))
		}
		for kind, cells := range kinds {
			if len(cells) != g.Board.Cells {
				t.Fatalf("%v: %d cells", g, len(cells))
			}
			for cell, l := range cells {
				var want []api.Path
				for _, p := range g.Kinds[kind].Progs {
					want = append(want, told{g, side}.paths(p, cell, nil)...)
				}
				if !samePaths(l, want) {
					t.Fatalf("%v, side %d, kind %d, cell %d: %s, not %s", g, side, kind, cell, pathTexts(l), pathTexts(want))
				}
			}
		}
	}
	return gen.Count(c)
}

// P8.1, P8.6: the paths are those that the chapter tells of, on small boards.
func TestTold(t *testing.T) {
	count := 0
	for g := range games(5000, 100000) {
		count += checkCode(t, g)
	}
	if count < 200000 {
		t.Errorf("only %d paths", count)
	}
}

// P8.1, P8.6: the same on grids, where a program can have very many paths.
func TestToldGrids(t *testing.T) {
	pick := rand.New(rand.NewPCG(9, 10)).IntN
	count, great := 0, 0
	for range 800 {
		b, e := board.Grid(1+pick(8), 1+pick(8))
		if e != api.OK {
			t.Fatal(e)
		}
		g := api.Game{Board: b, Kinds: []api.Kind{{Name: "a"}, {Name: "b"}}, Rights: api.MaxRights, Blocked: api.Loss, Endless: api.Draw}
		for range 1 + pick(3) {
			g.Kinds[0].Progs = append(g.Kinds[0].Progs, specimen.Prog(pick, g))
			// What specimens seldom have are many Slides.
			steps := api.Prog{{Op: api.Take}}
			for range 1 + pick(4) {
				steps = append(steps, api.Step{Op: api.Slide, N: pick(api.MaxDirs)})
			}
			g.Kinds[1].Progs = append(g.Kinds[1].Progs, steps)
		}
		if toldCount(g) > 100000 {
			continue
		}
		n := checkCode(t, g)
		count += n
		if n > 5000 {
			great++
		}
	}
	if count < 300000 || great < 10 {
		t.Errorf("only %d paths, and %d games with many", count, great)
	}
}

// samePaths reports whether both have the same paths, in the same order.
func samePaths(a, b []api.Path) bool {
	return slices.EqualFunc(a, b, func(p, q api.Path) bool { return p.To == q.To && slices.Equal(p.Acts, q.Acts) })
}

// samePositions reports whether both have the same positions, in the same order.
func samePositions(a, b []api.Pos) bool {
	return slices.EqualFunc(a, b, func(p, q api.Pos) bool { return pos.Compare(p, q) == 0 })
}

// as returns p with the turn of the man on the cell, and the kind of this man, or -1.
func as(p api.Pos, cell int) (api.Pos, int) {
	if p.At[cell] == 0 {
		return p, -1
	}
	p.Side = (p.At[cell] - 1) % 2
	return p, (p.At[cell] - 1) / 2
}

// checkOutcomes checks that outcomes are those that are wanted, by their texts, and in order.
func checkOutcomes(t *testing.T, x sample, p api.Pos, cell int, l []api.Outcome, want map[string]bool) {
	t.Helper()
	got := map[string]bool{}
	for i, o := range l {
		got[fmt.Sprint(o)] = true
		if i > 0 && pos.Compare(l[i-1].Pos, o.Pos) != -1 || !pos.Valid(x.g, o.Pos) {
			t.Fatalf("%v, %v, cell %d: %v", x, p, cell, l)
		}
	}
	if !maps.Equal(got, want) {
		t.Fatalf("%v, %v, cell %d: %v, not %v", x, p, cell, got, want)
	}
}

// P8.2: the outcomes of a man by its paths are those of all of its programs.
func TestOutcomes(t *testing.T) {
	count, takes := 0, 0
	for x, p := range samples() {
		for cell := range p.At {
			q, kind := as(p, cell)
			want := map[string]bool{}
			if kind >= 0 {
				for i := range x.g.Kinds[kind].Progs {
					l, e := run.Runs(x.g, q, cell, i)
					if e != api.OK {
						t.Fatalf("%v, %v: %v", x.g, q, e)
					}
					for _, o := range l {
						want[fmt.Sprint(o)] = true
						if o.Took {
							takes++
						}
					}
				}
			}
			checkOutcomes(t, x, p, cell, gen.Run(x.g, x.c, p, cell), want)
			count += len(want)
		}
	}
	if count < 20000 || takes < 2000 {
		t.Errorf("only %d outcomes, %d with a Take", count, takes)
	}
}

// P8.3: the moves found with a code are those of the interpreter.
func TestMoves(t *testing.T) {
	count := 0
	for x, p := range samples() {
		got, want := gen.Moves(x.g, x.c, p), play.Moves(x.g, p)
		if !samePositions(got, want) {
			t.Fatalf("%v, %v: %v, not %v", x.g, p, got, want)
		}
		count += len(want)
	}
	if count < 20000 {
		t.Errorf("only %d moves", count)
	}
}

// fits reports whether a path fits a game.
func fits(g api.Game, p api.Path) bool {
	is := func(n, most int) bool { return n >= 0 && n < most }
	for _, a := range p.Acts {
		ok := false
		switch a.Op {
		case api.Empty, api.Enemy, api.Friend, api.Take:
			ok = is(a.A, g.Board.Cells) && a.B == 0
		case api.Push:
			ok = is(a.A, g.Board.Cells) && is(a.B, g.Board.Cells)
		case api.Become:
			ok = is(a.A, len(g.Kinds)) && a.B == 0
		case api.Need, api.Lose:
			ok = is(a.A, g.Rights) && a.B == 0
		}
		if !ok {
			return false
		}
	}
	return is(p.To, g.Board.Cells)
}

// alone returns g with the program j of the kind i as the only one.
func alone(g api.Game, i, j int) api.Game {
	g.Kinds = slices.Clone(g.Kinds)
	only := g.Kinds[i].Progs[j : j+1]
	for n := range g.Kinds {
		g.Kinds[n].Progs = nil
	}
	g.Kinds[i].Progs = only
	return g
}

// P8.4: each path has valid acts, and begins and ends on cells; without Slides, it ends where the Gos lead, with an act for each other step.
func TestPaths(t *testing.T) {
	straight := 0
	for g := range games(3000, 10000) {
		steps := g.Kinds[0].Progs[0]
		for side, kinds := range gen.Compile(alone(g, 0, 0)).Paths {
			for cell, l := range kinds[0] {
				for _, p := range l {
					if !fits(g, p) {
						t.Fatalf("%v, cell %d: %v", g, cell, p)
					}
					if to, acts, ok := lead(told{g, side}, steps, cell); ok {
						straight++
						if p.To != to || len(p.Acts) != acts {
							t.Fatalf("%v, cell %d: %v, not to %d with %d acts", g, cell, p, to, acts)
						}
					}
				}
			}
		}
	}
	if straight < 1000 {
		t.Errorf("only %d", straight)
	}
}

// lead returns where steps without Slides lead from a cell, if they do, and how many of them are no Gos.
func lead(t told, steps api.Prog, c int) (to, others int, ok bool) {
	for _, s := range steps {
		switch s.Op {
		case api.Slide:
			return 0, 0, false
		case api.Go:
			c = t.to(s.N, c)
			if c < 0 {
				return 0, 0, false
			}
		default:
			others++
		}
	}
	return c, others, true
}

// P8.5: the paths of the side 1 are those of the side 0 for turned programs.
func TestSides(t *testing.T) {
	for g := range games(1000, 10000) {
		turned := g
		turned.Kinds = slices.Clone(g.Kinds)
		for i, k := range turned.Kinds {
			turned.Kinds[i].Progs = slices.Clone(k.Progs)
			for j, p := range k.Progs {
				turned.Kinds[i].Progs[j] = prog.Turned(p, g.Board.Turn)
			}
		}
		c, d := gen.Compile(g), gen.Compile(turned)
		if !reflect.DeepEqual(c.Paths[1], d.Paths[0]) || !reflect.DeepEqual(c.Paths[0], d.Paths[1]) {
			t.Fatalf("%v: %v and, turned, %v", g, c, d)
		}
	}
}

// P8.6: the number of paths is the sum over programs, sides and cells; without Slides, a program has at most one path from a cell.
func TestCounts(t *testing.T) {
	single := 0
	for g := range games(1000, 10000) {
		sum := 0
		for i, k := range g.Kinds {
			for j := range k.Progs {
				c := gen.Compile(alone(g, i, j))
				sum += gen.Count(c)
				isSlide := func(s api.Step) bool { return s.Op == api.Slide }
				if slices.ContainsFunc(k.Progs[j], isSlide) {
					continue
				}
				single++
				for side := range 2 {
					for cell, l := range c.Paths[side][i] {
						if len(l) > 1 {
							t.Fatalf("%v, %v, side %d, cell %d: %s", g, k.Progs[j], side, cell, pathTexts(l))
						}
					}
				}
			}
		}
		if n := gen.Count(gen.Compile(g)); n != sum {
			t.Fatalf("%v: %d paths, not %d", g, n, sum)
		}
	}
	if single < 1000 {
		t.Errorf("only %d programs", single)
	}
}

// P8.7: a man's outcomes do not depend on whose turn it is.
func TestTurns(t *testing.T) {
	pick := rand.New(rand.NewPCG(5, 6)).IntN
	for x, p := range samples() {
		if pick(2) == 0 {
			x.c = anyCode(pick, x.g)
		}
		q := specimen.Copied(p)
		q.Side = 1 - p.Side
		for cell := range p.At {
			if a, b := gen.Run(x.g, x.c, p, cell), gen.Run(x.g, x.c, q, cell); !reflect.DeepEqual(a, b) {
				t.Fatalf("%v, %v, cell %d: %v, with the other turn %v", x, p, cell, a, b)
			}
		}
	}
}

// anyCode returns a code that fits g, with any paths.
func anyCode(pick specimen.Pick, g api.Game) api.Code {
	c := empty(g)
	for _, kinds := range c.Paths {
		for _, cells := range kinds {
			for cell := range cells {
				for range pick(4) {
					p := api.Path{To: pick(g.Board.Cells)}
					for range pick(4) {
						p.Acts = append(p.Acts, anyAct(pick, g))
					}
					cells[cell] = append(cells[cell], p)
				}
			}
		}
	}
	return c
}

// anyAct returns an act that fits g.
func anyAct(pick specimen.Pick, g api.Game) api.Act {
	a := api.Act{Op: api.Empty + pick(8), A: pick(g.Board.Cells)}
	switch {
	case a.Op == api.Push:
		a.B = pick(g.Board.Cells)
	case a.Op == api.Become:
		a.A = pick(len(g.Kinds))
	case a.Op >= api.Need && g.Rights == 0:
		return api.Act{Op: api.Become}
	case a.Op >= api.Need:
		a.A = pick(g.Rights)
	}
	return a
}

// follow returns the outcome of a path that the man on the cell takes, and whether it takes it, as the chapter tells.
func follow(g api.Game, p api.Pos, cell int, path api.Path) (api.Outcome, bool) {
	p, kind := as(specimen.Copied(p), cell)
	me, took := p.Side, false
	p.At[cell] = 0
	for _, a := range path.Acts {
		owner := -1
		if a.Op < api.Become && p.At[a.A] > 0 {
			owner = (p.At[a.A] - 1) % 2
		}
		can := true
		switch a.Op {
		case api.Empty:
			can = owner == -1
		case api.Enemy:
			can = owner == 1-me
		case api.Friend:
			can = owner == me
		case api.Take:
			if can = owner == 1-me; can {
				k := (p.At[a.A] - 1) / 2
				if g.Kinds[k].Keep {
					p.Hand[me][k]++
				}
				can = p.Hand[me][k] < 9
				p.At[a.A], took = 0, true
			}
		case api.Push:
			if can = owner >= 0 && p.At[a.B] == 0; can {
				p.At[a.B], p.At[a.A] = p.At[a.A], 0
			}
		case api.Become:
			kind = a.A
		case api.Need:
			can = p.Rights>>a.A%2 == 1
		case api.Lose:
			p.Rights -= p.Rights & (1 << a.A)
		}
		if !can {
			return api.Outcome{}, false
		}
	}
	if p.At[path.To] != 0 {
		return api.Outcome{}, false
	}
	p.At[path.To], p.Side = 1+2*kind+me, 1-me
	return api.Outcome{Pos: p, Took: took}, true
}

// toldRun returns the texts of the outcomes of the paths of a code that the man on the cell takes.
func toldRun(x sample, p api.Pos, cell int) map[string]api.Outcome {
	all := map[string]api.Outcome{}
	if q, kind := as(p, cell); kind >= 0 {
		for _, path := range x.c.Paths[q.Side][kind][cell] {
			if o, ok := follow(x.g, p, cell, path); ok {
				all[fmt.Sprint(o)] = o
			}
		}
	}
	return all
}

// toldMoves returns the texts of the moves that a code tells, as the chapter says.
func toldMoves(x sample, p api.Pos) map[string]bool {
	free, must := map[string]bool{}, map[string]bool{}
	if _, over := play.Status(x.g, p); over {
		return free
	}
	for cell := range p.At {
		for _, o := range toldRun(x, p, cell) {
			if o.Pos.Side == p.Side {
				continue
			}
			free[fmt.Sprint(o.Pos)] = true
			if o.Took {
				must[fmt.Sprint(o.Pos)] = true
			}
		}
	}
	for _, q := range run.Drops(x.g, p) {
		free[fmt.Sprint(q)] = true
	}
	if x.g.Must && len(must) > 0 {
		return must
	}
	return free
}

// P8.1: outcomes and moves by any code that fits are those that the chapter tells of.
func TestAnyCode(t *testing.T) {
	pick := rand.New(rand.NewPCG(7, 8)).IntN
	outcomes, differing := 0, 0
	for x, p := range samples() {
		x.c = anyCode(pick, x.g)
		for cell := range p.At {
			want := map[string]bool{}
			for text := range toldRun(x, p, cell) {
				want[text] = true
			}
			checkOutcomes(t, x, p, cell, gen.Run(x.g, x.c, p, cell), want)
			outcomes += len(want)
		}
		got, l := map[string]bool{}, gen.Moves(x.g, x.c, p)
		for i, q := range l {
			got[fmt.Sprint(q)] = true
			if i > 0 && pos.Compare(l[i-1], q) != -1 {
				t.Fatalf("%v, %v: %v", x, p, l)
			}
		}
		if want := toldMoves(x, p); !maps.Equal(got, want) {
			t.Fatalf("%v, %v: %v, not %v", x, p, got, want)
		}
		if !samePositions(l, play.Moves(x.g, p)) {
			differing++
		}
	}
	if outcomes < 15000 || differing < 5000 {
		t.Errorf("only %d outcomes, and %d positions with other moves", outcomes, differing)
	}
}
