package run_test

import (
	"fmt"
	"maps"
	"math/rand/v2"
	"slices"
	"strings"
	"testing"

	"skewer/api"
	"skewer/board"
	"skewer/game"
	"skewer/pos"
	"skewer/prog"
	"skewer/run"
	"skewer/specimen"
)

// row returns a game on a row of cells, whose direction 0 leads to the right, 1 to the left, and 2 nowhere but from the last cell to itself; with two rights and the kinds a, and b, which is kept. The program is one of a.
func row(t *testing.T, cells int, program string) api.Game {
	t.Helper()
	steps, e := prog.Parse(program)
	if e != api.OK {
		t.Fatalf("%q: %v", program, e)
	}
	b := api.Board{Cells: cells, Next: make([][]int, 3), Turn: []int{1, 0, 2}}
	for c := range cells {
		b.Next[0] = append(b.Next[0], c+1)
		b.Next[1] = append(b.Next[1], c-1)
		b.Next[2] = append(b.Next[2], -1)
	}
	b.Next[0][cells-1] = -1
	b.Next[2][cells-1] = cells - 1
	g := api.Game{Board: b, Kinds: []api.Kind{{Name: "a", Progs: []api.Prog{steps}}, {Name: "b", Keep: true}}, Rights: 2, Blocked: api.Loss, Endless: api.Draw}
	if !game.Valid(g) {
		t.Fatalf("%q: not valid", program)
	}
	return g
}

// P5.1: the examples of the chapter.
func TestExamples(t *testing.T) {
	for _, c := range []struct {
		p          string
		cell       int
		steps      string
		want, read string
	}{
		{"A.a/00/00/0/0", 0, "slide0", ".Aa/00/00/0/1", "[0 1 2]"},
		{"A.a/00/00/0/0", 0, "slide0 enemy take", "..A/00/00/0/1x", "[0 1 2]"},
		{"A.a/00/00/0/1", 2, "slide0", "Aa./00/00/0/0", "[0 1 2]"},
		{"AA./00/00/0/0", 0, "go0 push0", ".AA/00/00/0/1", "[0 1 2]"},
		{"AA./00/00/0/0", 0, "go0", "", "[0 1]"},
	} {
		g := row(t, 3, c.steps)
		checkRun(t, sample{g, specimen.Parsed(t, g, c.p), c.cell, 0}, c.want, c.read)
	}
}

// checkRun checks the texts of the outcomes of a man, and the cells that it reads.
func checkRun(t *testing.T, x sample, want, read string) {
	t.Helper()
	if got := specimen.OutcomeTexts(x.g, runs(t, x)); got != want {
		t.Errorf("%s, %s: outcomes %q, not %q", pos.Print(x.g, x.p), prog.Print(x.steps()), got, want)
	}
	if got := fmt.Sprint(reads(t, x)); got != read {
		t.Errorf("%s, %s: reads %s, not %s", pos.Print(x.g, x.p), prog.Print(x.steps()), got, read)
	}
}

// P5.1, P5.8: each step, where it can be done and where it cannot. The man that runs is the first one of the mover.
func TestSteps(t *testing.T) {
	for _, c := range []struct{ p, steps, want, read string }{
		{"A.../00/00/0/0", "go0", ".A../00/00/0/1", "[0 1]"},
		{"A.../00/00/0/0", "go1", "", "[0]"},
		{"...A/00/00/0/0", "go2", "...A/00/00/0/1", "[3]"},
		{".a../00/00/0/1", "go1 go1", "...a/00/00/0/0", "[1 2 3]"},
		{".a../00/00/0/1", "go0", "a.../00/00/0/0", "[0 1]"},
		{"A.../00/00/0/0", "slide0", "...A/00/00/0/1 ..A./00/00/0/1 .A../00/00/0/1", "[0 1 2 3]"},
		{"...A/00/00/0/0", "slide0", "", "[3]"},
		{"...A/00/00/0/0", "slide2", "", "[3]"},
		{"Ab.B/00/00/0/0", "slide0", "", "[0 1]"},
		{"Ab.B/00/00/0/0", "slide0 slide0", ".bAB/00/00/0/1", "[0 1 2 3]"},
		{"..a./00/00/0/1", "slide0 slide1", "...a/00/00/0/0 ..a./00/00/0/0 .a../00/00/0/0", "[0 1 2 3]"},
		{"AB../00/00/0/0", "go0 empty go0", "", "[0 1]"},
		{"A.../00/00/0/0", "go0 empty go0", "..A./00/00/0/1", "[0 1 2]"},
		{"A.../00/00/0/0", "empty", "A.../00/00/0/1", "[0]"},
		{"A.../00/00/0/0", "friend", "", "[0]"},
		{"A.../00/00/0/0", "take", "", "[0]"},
		{"Ab../00/00/0/0", "go0 enemy go0", ".bA./00/00/0/1", "[0 1 2]"},
		{"AB../00/00/0/0", "go0 enemy go0", "", "[0 1]"},
		{"A.../00/00/0/0", "go0 enemy go0", "", "[0 1]"},
		{"aB../00/00/0/1", "go1 enemy go1", ".Ba./00/00/0/0", "[0 1 2]"},
		{"AB../00/00/0/0", "go0 friend go0", ".BA./00/00/0/1", "[0 1 2]"},
		{"Ab../00/00/0/0", "go0 friend go0", "", "[0 1]"},
		{"A.../00/00/0/0", "go0 friend go0", "", "[0 1]"},
		{"ab../00/00/0/1", "go1 friend go1", ".ba./00/00/0/0", "[0 1 2]"},
		{"Aa../03/04/0/0", "go0 take", ".A../03/04/0/1x", "[0 1]"},
		{"Ab../03/04/0/0", "go0 take", ".A../04/04/0/1x", "[0 1]"},
		{"aB../03/04/0/1", "go1 take", ".a../03/05/0/0x", "[0 1]"},
		{"Ab../07/08/0/0", "go0 take", ".A../08/08/0/1x", "[0 1]"},
		{"Ab../08/00/0/0", "go0 take", "", "[0 1]"},
		{"Aa../08/08/0/0", "go0 take", ".A../08/08/0/1x", "[0 1]"},
		{"AB../00/00/0/0", "go0 take", "", "[0 1]"},
		{"A.../00/00/0/0", "go0 take", "", "[0 1]"},
		{"Ab../00/00/0/0", "go0 take take", "", "[0 1]"},
		{"Abb./00/00/0/0", "go0 take go0 take", "..A./02/00/0/1x", "[0 1 2]"},
		{"Abb./07/00/0/0", "go0 take go0 take", "", "[0 1 2]"},
		{"Ab../00/00/0/0", "go0 take go1", "A.../01/00/0/1x", "[0 1]"},
		{"Ab../00/00/0/0", "go0 push0", ".Ab./00/00/0/1", "[0 1 2]"},
		{"AB../00/00/0/0", "go0 push0", ".AB./00/00/0/1", "[0 1 2]"},
		{"aB../00/00/0/1", "go1 push1", ".aB./00/00/0/0", "[0 1 2]"},
		{"AB../00/00/0/0", "go0 push1", "BA../00/00/0/1", "[0 1]"},
		{"Abb./00/00/0/0", "go0 push0", "", "[0 1 2]"},
		{"..Ab/00/00/0/0", "go0 push0", "", "[2 3]"},
		{"..Ab/00/00/0/0", "go0 push2", "", "[2 3]"},
		{"A.../00/00/0/0", "go0 push0", "", "[0 1]"},
		{"Ab../00/00/0/0", "go0 push0 go0 take", "..A./01/00/0/1x", "[0 1 2]"},
		{"A.../00/00/0/0", "go0 become1", ".B../00/00/0/1", "[0 1]"},
		{".a../00/00/0/1", "become1 go0", "b.../00/00/0/0", "[0 1]"},
		{"A.../00/00/0/0", "become0", "A.../00/00/0/1", "[0]"},
		{"A.../00/00/2/0", "need1 go0", ".A../00/00/2/1", "[0 1]"},
		{"A.../00/00/2/0", "need0 go0", "", "[0]"},
		{"A.../00/00/3/0", "lose0 go0", ".A../00/00/2/1", "[0 1]"},
		{"A.../00/00/2/0", "lose0 go0", ".A../00/00/2/1", "[0 1]"},
		{"A.../00/00/3/0", "lose1 need0", "A.../00/00/1/1", "[0]"},
		{"A.../00/00/3/0", "lose1 need1", "", "[0]"},
	} {
		g := row(t, 4, c.steps)
		p := specimen.Parsed(t, g, c.p)
		checkRun(t, sample{g, p, slices.Index(p.At, 1+p.Side), 0}, c.want, c.read)
	}
}

// P5.1: a Slide goes around a ring, but not to its beginning; it does not matter whether that is empty.
func TestRing(t *testing.T) {
	g := row(t, 4, "slide0")
	g.Board.Next[0][3] = 0
	checkRun(t, sample{g, specimen.Parsed(t, g, "A.../00/00/0/0"), 0, 0}, "...A/00/00/0/1 ..A./00/00/0/1 .A../00/00/0/1", "[0 1 2 3]")
	g = row(t, 4, "go0 slide0")
	g.Board.Next[0][3] = 0
	checkRun(t, sample{g, specimen.Parsed(t, g, "A.../00/00/0/0"), 0, 0}, "...A/00/00/0/1 ..A./00/00/0/1 A.../00/00/0/1", "[0 1 2 3]")
	checkRun(t, sample{g, specimen.Parsed(t, g, "Ab../00/00/0/0"), 0, 0}, ".b.A/00/00/0/1 .bA./00/00/0/1 Ab../00/00/0/1", "[0 1 2 3]")
}

// fork returns a game on six cells, whose direction 0 leads from 0 to 4 and 5, the direction 1 from there to 1 and 2, and the direction 2 from both to 3.
func fork(t *testing.T, program string) api.Game {
	t.Helper()
	g := row(t, 6, program)
	g.Board.Turn = []int{0, 1, 2}
	g.Board.Next = [][]int{{4, -1, -1, -1, 5, -1}, {-1, -1, -1, -1, 1, 2}, {-1, 3, 3, -1, -1, -1}}
	return g
}

// P5.3: two ways have one outcome if each ends where the other one left a man of the same kind.
func TestOneOutcome(t *testing.T) {
	g := fork(t, "slide0 slide1 push2")
	checkRun(t, sample{g, specimen.Parsed(t, g, "AAA.../00/00/0/0"), 0, 0}, ".AAA../00/00/0/1", "[0 1 2 3 4 5]")
	checkRun(t, sample{g, specimen.Parsed(t, g, "AAB.../00/00/0/0"), 0, 0}, ".AAB../00/00/0/1 .ABA../00/00/0/1", "[0 1 2 3 4 5]")
}

// P5.1: two ways that meet on a cell go on by themselves if their positions differ.
func TestMeeting(t *testing.T) {
	g := fork(t, "slide0 slide1 take go2")
	checkRun(t, sample{g, specimen.Parsed(t, g, "Aab.../00/00/0/0"), 0, 0}, "..bA../00/00/0/1x .a.A../01/00/0/1x", "[0 1 2 3 4 5]")
	checkRun(t, sample{g, specimen.Parsed(t, g, "Aab.../08/00/0/0"), 0, 0}, "..bA../08/00/0/1x", "[0 1 2 3 4 5]")
}

// ring returns a man on a ring of cells, who slides around it as often as a program can.
func ring(t *testing.T, cells int) sample {
	g := row(t, cells, strings.TrimSpace(strings.Repeat("slide0 ", api.MaxSteps)))
	g.Board.Next[0][cells-1] = 0
	p := api.Pos{At: make([]int, cells), Hand: [2][]int{{0, 0}, {0, 0}}}
	p.At[1] = 1
	return sample{g, p, 1, 0}
}

// P5.1: where very many ways lead to few cells, those that have become equal are followed as one.
func TestManyWays(t *testing.T) {
	x := ring(t, 6)
	if n := testing.AllocsPerRun(1, func() { all(x) }); n > 20000 {
		t.Fatal("too many ways are followed:", n)
	}
	for _, cells := range []int{3, 6, api.MaxCells} {
		x := ring(t, cells)
		if l := runs(t, x); len(l) != cells {
			t.Errorf("%d cells: %d outcomes", cells, len(l))
		}
		if l := reads(t, x); len(l) != cells {
			t.Errorf("%d cells: reads %v", cells, l)
		}
	}
}

// P5.1: the greatest game and position: all contents, numbers and rights are followed.
func TestLargest(t *testing.T) {
	b, e := board.Grid(8, 8)
	if e != api.OK {
		t.Fatal(e)
	}
	g := api.Game{Board: b, Rights: api.MaxRights, Blocked: api.Loss, Endless: api.Draw}
	steps := api.Prog{{Op: api.Need, N: 3}, {Op: api.Lose, N: 3}, {Op: api.Go, N: 7}, {Op: api.Take}, {Op: api.Go, N: 0}, {Op: api.Take}, {Op: api.Push}, {Op: api.Become, N: 5}}
	for _, name := range []string{"a", "b", "c", "d", "e", "f"} {
		g.Kinds = append(g.Kinds, api.Kind{Name: name, Keep: true, Progs: slices.Repeat([]api.Prog{steps[:6], {{Op: api.Go}}, {steps[7]}, steps}, 2)})
	}
	p := api.Pos{At: slices.Repeat([]int{11}, 64), Hand: [2][]int{slices.Repeat([]int{6}, 6), slices.Repeat([]int{8}, 6)}, Rights: 15}
	p.At[63] = 9
	if !game.Valid(g) || !pos.Valid(g, p) {
		t.Fatal("not valid")
	}
	p.At[54], p.At[46] = 12, 12
	l := runs(t, sample{g, p, 63, 0})
	if len(l) != 1 || !l[0].Took || l[0].Pos.At[46] != 9 || l[0].Pos.At[54] != 0 || l[0].Pos.Hand[0][5] != 8 || l[0].Pos.Rights != 7 {
		t.Errorf("%v", l)
	}
	if l := runs(t, sample{g, p, 63, 6}); len(l) != 1 || l[0].Pos.At[63] != 11 {
		t.Errorf("%v", l)
	}
	p.Hand[0][5] = 7
	if l := runs(t, sample{g, p, 63, 4}); len(l) != 0 {
		t.Errorf("%v", l)
	}
}

// P5.7: cells without a man of the mover, programs that are not there, and positions that are not valid, are refused.
func TestErrors(t *testing.T) {
	g := row(t, 4, "go0")
	for side, men := range [2]string{"Ab.B/00/00/3/0", "bA.a/00/00/3/1"} {
		p := specimen.Parsed(t, g, men)
		for _, cell := range append([]int{0, 1, 2, 3}, specimen.Edges()...) {
			for _, i := range specimen.Edges() {
				want := api.ErrRun
				if i == 0 && (cell == 0 && side == 0 || cell == 3 && side == 1) {
					want = api.OK
				}
				checkErrors(t, sample{g, p, cell, i}, want)
			}
		}
	}
	p := specimen.Parsed(t, g, "Ab.B/00/00/3/0")
	for n, change := range []func(*api.Pos){
		func(p *api.Pos) { p.At = p.At[:3] },
		func(p *api.Pos) { p.At = append(p.At, 0) },
		func(p *api.Pos) { p.At = nil },
		func(p *api.Pos) { p.At[2] = 5 },
		func(p *api.Pos) { p.At[2] = -1 },
		func(p *api.Pos) { p.Hand[0][0] = 1 },
		func(p *api.Pos) { p.Hand[1][1] = 9 },
		func(p *api.Pos) { p.Hand[1] = nil },
		func(p *api.Pos) { p.Rights = 4 },
		func(p *api.Pos) { p.Rights = -1 },
		func(p *api.Pos) { p.Side = 2 },
		func(p *api.Pos) { p.Side = -1 },
	} {
		bad := specimen.Copied(p)
		change(&bad)
		if pos.Valid(g, bad) {
			t.Fatalf("case %d is valid", n)
		}
		for _, cell := range []int{0, 1, 2, -1, 4, 9} {
			checkErrors(t, sample{g, bad, cell, 0}, api.ErrPos)
			checkErrors(t, sample{g, bad, cell, 1}, api.ErrPos)
		}
	}
}

// checkErrors checks the errors for a man that need not be there.
func checkErrors(t *testing.T, x sample, want api.Errno) {
	t.Helper()
	l, e := run.Runs(x.g, x.p, x.cell, x.i)
	cells, f := run.Reads(x.g, x.p, x.cell, x.i)
	if e != want || f != want || want != api.OK && len(l)+len(cells) > 0 {
		t.Fatalf("%v: %v, %v, %v, %v", x, l, e, cells, f)
	}
}

// P5.6: the drops are all positions in which one man from the hand is on a cell that was empty.
func TestDrops(t *testing.T) {
	r := rand.New(rand.NewPCG(5, 6))
	count := 0
	for range 3000 {
		g := specimen.Game(r.IntN)
		p := specimen.Pos(r.IntN, g)
		want := map[string]bool{}
		for c, content := range p.At {
			for i := range g.Kinds {
				if content != 0 || p.Hand[p.Side][i] == 0 {
					continue
				}
				q := specimen.Copied(p)
				q.At[c] = 1 + 2*i + p.Side
				q.Hand[p.Side][i]--
				q.Side = 1 - p.Side
				want[fmt.Sprint(q)] = true
			}
		}
		l := run.Drops(g, p)
		count += len(l)
		got := map[string]bool{}
		for i, q := range l {
			got[fmt.Sprint(q)] = true
			if i > 0 && pos.Compare(l[i-1], q) != -1 || !pos.Valid(g, q) {
				t.Fatalf("%v: %v", p, l)
			}
		}
		if !maps.Equal(got, want) {
			t.Fatalf("%v: %v, not %v", p, got, want)
		}
	}
	if count < 3000 {
		t.Errorf("only %d drops", count)
	}
}

// P5.6: drops in a game with two kinds, of which one is kept.
func TestDropsOf(t *testing.T) {
	g := row(t, 3, "go0")
	for _, c := range []struct{ p, want string }{
		{".a./02/01/2/0", ".aB/01/01/2/1 Ba./01/01/2/1"},
		{".a./02/01/2/1", ".ab/02/00/2/0 ba./02/00/2/0"},
		{"Aab/08/08/0/0", ""},
		{"A../00/08/0/0", ""},
	} {
		var all []string
		for _, q := range run.Drops(g, specimen.Parsed(t, g, c.p)) {
			all = append(all, pos.Print(g, q))
		}
		if got := strings.Join(all, " "); got != c.want {
			t.Errorf("%s: %q, not %q", c.p, got, c.want)
		}
	}
}
