package gen_test

import (
	"slices"
	"strconv"
	"strings"
	"testing"

	"skewer/api"
	"skewer/board"
	"skewer/game"
	"skewer/gen"
	"skewer/play"
	"skewer/pos"
	"skewer/prog"
	"skewer/specimen"
)

// row returns the game on a row of cells whose kind a has these programs, with commas between them, and whose kind b is kept and has none.
func row(t *testing.T, cells int, progs string) api.Game {
	t.Helper()
	lines := strings.ReplaceAll("prog "+progs+"\n", ", ", "\nprog ")
	return specimen.Row(t, cells, "kind a\n"+lines+"kind b keep\n", "")
}

// pathText returns the text of a path: its acts, with their cells or other numbers, and where it leads to.
func pathText(p api.Path) string {
	names := [...]string{"none", "go", "slide", "empty", "enemy", "friend", "take", "push", "become", "need", "lose"}
	var words []string
	for _, a := range p.Acts {
		s := names[a.Op] + strconv.Itoa(a.A)
		if a.Op == api.Push || a.B != 0 {
			s += "-" + strconv.Itoa(a.B)
		}
		words = append(words, s)
	}
	return strings.Join(append(words, "to"+strconv.Itoa(p.To)), " ")
}

// pathTexts returns the texts of paths, with commas between them.
func pathTexts(l []api.Path) string {
	var all []string
	for _, p := range l {
		all = append(all, pathText(p))
	}
	return strings.Join(all, ", ")
}

// checkPaths checks the texts of the paths of a man of the kind a.
func checkPaths(t *testing.T, g api.Game, side, cell int, want string) {
	t.Helper()
	c := gen.Compile(g)
	if len(c.Paths[side]) == 0 || len(c.Paths[side][0]) != g.Board.Cells {
		t.Fatalf("no paths of the side %d: %v", side, c)
	}
	if got := pathTexts(c.Paths[side][0][cell]); got != want {
		t.Errorf("side %d, cell %d: %q, not %q", side, cell, got, want)
	}
}

// P8.1: the examples of the chapter.
func TestExamples(t *testing.T) {
	for _, c := range []struct {
		progs      string
		side, cell int
		want       string
	}{
		{"slide0", 0, 0, "to1, empty1 to2"},
		{"slide0", 1, 0, ""},
		{"go0 enemy take", 0, 1, "enemy2 take2 to2"},
		{"go0 push0", 0, 0, "push1-2 to1"},
		{"go0 push0", 0, 1, ""},
		{"need0 go0", 0, 0, "need0 to1"},
	} {
		checkPaths(t, row(t, 3, c.progs), c.side, c.cell, c.want)
	}
	g := row(t, 3, "go0")
	g.Rights, g.Kinds[0].Progs = 4, []api.Prog{{{Op: api.Need, N: 3}, {Op: api.Go}}}
	checkPaths(t, g, 0, 0, "need3 to1")
}

// P8.1, P8.4: the paths of each step, for both sides, and where the cells end.
func TestPathsOf(t *testing.T) {
	for _, c := range []struct {
		progs      string
		side, cell int
		want       string
	}{
		{"go0", 0, 0, "to1"},
		{"go0", 0, 3, ""},
		{"go0", 1, 3, "to2"},
		{"go0", 1, 0, ""},
		{"go1", 0, 0, ""},
		{"go0 go0 go1", 0, 1, "to2"},
		{"go0 go0 go1", 0, 2, ""},
		{"slide0", 0, 3, ""},
		{"slide0", 0, 1, "to2, empty2 to3"},
		{"slide1", 0, 3, "to2, empty2 to1, empty2 empty1 to0"},
		{"slide0", 1, 3, "to2, empty2 to1, empty2 empty1 to0"},
		{"slide0 slide1", 0, 2, "to2, empty2 to1, empty2 empty1 to0"},
		{"slide0 slide0", 0, 0, "to2, empty2 to3, empty1 to3"},
		{"slide0 slide0 slide0", 0, 0, "to3"},
		{"slide0 slide0 slide0 slide0", 0, 0, ""},
		{"slide0 go0", 0, 0, "to2, empty1 to3"},
		{"slide1 enemy", 1, 1, "enemy2 to2, empty2 enemy3 to3"},
		{"empty", 0, 2, "empty2 to2"},
		{"enemy friend take empty", 1, 3, "enemy3 friend3 take3 empty3 to3"},
		{"go0 take go0 take", 0, 0, "take1 take2 to2"},
		{"push0", 0, 3, ""},
		{"push0", 0, 2, "push2-3 to2"},
		{"push0", 1, 2, "push2-1 to2"},
		{"push0", 1, 1, "push1-0 to1"},
		{"slide0 push0", 0, 0, "push1-2 to1, empty1 push2-3 to2"},
		{"slide0 push1", 0, 2, "push3-2 to3"},
		{"go1 become1", 1, 2, "become1 to3"},
		{"need0 lose0 need0", 0, 3, "need0 lose0 need0 to3"},
		{"go0, go1", 0, 1, "to2, to0"},
		{"go1, go0", 0, 1, "to0, to2"},
		{"go0, go0, go1, go0", 0, 1, "to2, to2, to0, to2"},
		{"slide0, go0 empty, slide1", 0, 1, "to2, empty2 to3, empty2 to2, to0"},
		{"go0 go0 go0, go1", 1, 3, "to0"},
	} {
		checkPaths(t, row(t, 4, c.progs), c.side, c.cell, c.want)
	}
}

// P8.1, P8.4: a line goes around a ring, but not to its beginning, and not on where a direction leads to the same cell.
func TestRing(t *testing.T) {
	g := row(t, 4, "slide0, go0 go0 go0 go0")
	g.Board.Next[0][3] = 0
	checkPaths(t, g, 0, 2, "to3, empty3 to0, empty3 empty0 to1, to2")
	g = row(t, 4, "go0 slide0, go0 push0")
	g.Board.Next[0][3] = 3
	checkPaths(t, g, 0, 1, "to3, push2-3 to2")
	checkPaths(t, g, 0, 2, "push3-3 to3")
	checkPaths(t, g, 0, 3, "push3-3 to3")
}

// P8.1, P8.5: a direction that is not turned is the same one for both sides, and others are exchanged, wherever they lead.
func TestTurn(t *testing.T) {
	g := row(t, 4, "slide0, go1")
	g.Board.Turn = []int{0, 1}
	for side := range 2 {
		checkPaths(t, g, side, 1, "to2, empty2 to3, to0")
	}
	g.Board.Next = append(g.Board.Next, []int{3, 0, 0, 1})
	g.Board.Turn = []int{2, 1, 0}
	checkPaths(t, g, 0, 2, "to3, to1")
	checkPaths(t, g, 1, 2, "to0, empty0 to3, empty0 empty3 to1, to1")
}

// P8.1: there is a list for both sides, each kind and each cell, whether or not there are paths.
func TestShape(t *testing.T) {
	b, e := board.Grid(8, 8)
	if e != api.OK {
		t.Fatal(e)
	}
	g := api.Game{Board: b, Blocked: api.Loss, Endless: api.Draw}
	for i := range api.MaxKinds {
		progs := slices.Repeat([]api.Prog{{{Op: api.Slide, N: 3}}}, i)
		g.Kinds = append(g.Kinds, api.Kind{Name: string(rune('a' + i)), Progs: progs})
	}
	c := gen.Compile(g)
	for side, kinds := range c.Paths {
		if len(kinds) != api.MaxKinds {
			t.Fatalf("%d kinds", len(kinds))
		}
		for kind, cells := range kinds {
			if len(cells) != 64 {
				t.Fatalf("%d cells", len(cells))
			}
			for cell, l := range cells {
				// Towards the right and down, or towards the left and up.
				far := min(7-cell%8, 7-cell/8)
				if side == 1 {
					far = min(cell%8, cell/8)
				}
				if len(l) != kind*far {
					t.Errorf("side %d, kind %d, cell %d: %d paths", side, kind, cell, len(l))
				}
			}
		}
	}
	// The slides of a diagonal with n cells have n (n - 1) / 2 paths.
	if n := gen.Count(c); n != 2*(1+2+3+4+5)*(28+2*(21+15+10+6+3+1)) {
		t.Errorf("%d paths", n)
	}
}

// ring returns a game of so many kinds with these programs on a ring of cells, whose direction 2 leads nowhere.
func ring(t *testing.T, cells, kinds int, progs ...string) api.Game {
	t.Helper()
	b := api.Board{Cells: cells, Next: make([][]int, 3), Turn: []int{1, 0, 2}}
	for c := range cells {
		b.Next[0] = append(b.Next[0], (c+1)%cells)
		b.Next[1] = append(b.Next[1], (c+cells-1)%cells)
		b.Next[2] = append(b.Next[2], -1)
	}
	var k api.Kind
	for _, s := range progs {
		p, e := prog.Parse(s)
		if e != api.OK {
			t.Fatalf("%q: %v", s, e)
		}
		k.Progs = append(k.Progs, p)
	}
	g := api.Game{Board: b, Blocked: api.Loss, Endless: api.Draw}
	for i := range kinds {
		k.Name = string(rune('a' + i))
		g.Kinds = append(g.Kinds, k)
	}
	if !game.Valid(g) {
		t.Fatalf("%q: not valid", progs)
	}
	return g
}

// P8.1, P8.6: a game may have 100000 paths.
func TestMostPaths(t *testing.T) {
	progs := slices.Concat(slices.Repeat([]string{"slide0"}, 4), slices.Repeat([]string{"go0"}, 4))
	c := gen.Compile(ring(t, 50, 5, progs...))
	if n := gen.Count(c); n != 100000 {
		t.Errorf("%d paths", n)
	}
	for side, kinds := range c.Paths {
		for kind, cells := range kinds {
			for cell, l := range cells {
				if len(l) != 4*49+4 || l[199].To != (cell+1+48*side)%50 {
					t.Errorf("side %d, kind %d, cell %d: %v", side, kind, cell, l)
				}
			}
		}
	}
	// In one program, there can be nearly as many.
	if n := gen.Count(gen.Compile(ring(t, 15, 1, "slide0 slide0 slide1"))); n != 2*15*14*14*14 {
		t.Errorf("%d paths", n)
	}
}

// P8.1, P1: where very many ways lead to where no path goes on, few paths are found, and soon.
func TestManyWays(t *testing.T) {
	slides := strings.TrimSpace(strings.Repeat("slide0 ", 7))
	g := ring(t, api.MaxCells, api.MaxKinds, slides+" go2", slides+" push2", "slide0 slide1 go2", "go0 empty")
	c := gen.Compile(g)
	if n := gen.Count(c); n != 2*api.MaxKinds*api.MaxCells {
		t.Errorf("%d paths", n)
	}
	if got := pathTexts(c.Paths[1][5][0]); got != "empty63 to63" {
		t.Error(got)
	}
	// Of 250047 ways from the cell 0, those go on that come back to it: as often as three numbers from 1 to 63 have a sum that 64 divides.
	g = ring(t, api.MaxCells, 1, "go2 slide0 slide0 slide0 go2")
	g.Board.Next[2][0] = 0
	if n := gen.Count(gen.Compile(g)); n != 2*63*62 {
		t.Errorf("%d paths", n)
	}
}

// P1: games with more than 100000 paths, for which the chapter says nothing else, come to an end, and have no code.
func TestTooManyPaths(t *testing.T) {
	progs := slices.Repeat([]string{"slide0", "go0"}, 4)
	g := ring(t, 50, 6, progs...)
	g.Kinds[5].Progs = []api.Prog{{{Op: api.Go, N: 2}}}
	if n := gen.Count(gen.Compile(g)); n != 100000 {
		t.Errorf("%d paths", n)
	}
	// This is one path more for each side.
	g.Board.Next[2][49] = 49
	slides := strings.TrimSpace(strings.Repeat("slide0 ", api.MaxSteps))
	for _, g := range []api.Game{g, ring(t, 64, 6, slides, slides, "go0"), ring(t, 64, 6, "slide0 slide0")} {
		if n := gen.Count(gen.Compile(g)); n != 0 {
			t.Errorf("%d paths", n)
		}
	}
}

// checkRun checks the outcomes of a man by the code of the game, whosever turn it is.
func checkRun(t *testing.T, g api.Game, s string, cell int, want string) {
	t.Helper()
	p := specimen.Parsed(t, g, s)
	for p.Side = range 2 {
		if got := specimen.OutcomeTexts(g, gen.Run(g, gen.Compile(g), p, cell)); got != want {
			t.Errorf("%s, cell %d, side %d: %q, not %q", s, cell, p.Side, got, want)
		}
	}
}

// P8.1, P8.7: what each act does, where it can be done and where it cannot, in order; the turn does not matter.
func TestRunOf(t *testing.T) {
	for _, c := range []struct {
		p     string
		cell  int
		progs string
		want  string
	}{
		{"A.../00/00/0/0", 0, "go0", ".A../00/00/0/1"},
		{"..a./00/00/0/0", 2, "go0", ".a../00/00/0/0"},
		{"AB../00/00/0/0", 0, "go0", ""},
		{"Ab../00/00/0/0", 0, "go0", ""},
		{"A.../00/00/0/0", 0, "slide0", "...A/00/00/0/1 ..A./00/00/0/1 .A../00/00/0/1"},
		{"A..b/00/00/0/0", 0, "slide0", "..Ab/00/00/0/1 .A.b/00/00/0/1"},
		{"A.../00/00/0/0", 0, "slide0 slide1", "..A./00/00/0/1 .A../00/00/0/1 A.../00/00/0/1"},
		{"A.../00/00/0/0", 0, "empty", "A.../00/00/0/1"},
		{"A.../00/00/0/0", 0, "friend", ""},
		{"A.../00/00/0/0", 0, "go0 empty go0", "..A./00/00/0/1"},
		{"AB../00/00/0/0", 0, "go0 empty go0", ""},
		{"Ab../00/00/0/0", 0, "go0 enemy go0", ".bA./00/00/0/1"},
		{"AB../00/00/0/0", 0, "go0 enemy go0", ""},
		{"A.../00/00/0/0", 0, "go0 enemy go0", ""},
		{"..Ba/00/00/0/0", 3, "go0 enemy go0", ".aB./00/00/0/0"},
		{"AB../00/00/0/0", 0, "go0 friend go0", ".BA./00/00/0/1"},
		{"Ab../00/00/0/0", 0, "go0 friend go0", ""},
		{"A.../00/00/0/0", 0, "go0 friend go0", ""},
		{"..ba/00/00/0/0", 3, "go0 friend go0", ".ab./00/00/0/0"},
		{"Aa../03/04/0/0", 0, "go0 take", ".A../03/04/0/1x"},
		{"Ab../03/04/0/0", 0, "go0 take", ".A../04/04/0/1x"},
		{"..Ba/03/04/0/0", 3, "go0 take", "..a./03/05/0/0x"},
		{"Ab../07/08/0/0", 0, "go0 take", ".A../08/08/0/1x"},
		{"Ab../08/00/0/0", 0, "go0 take", ""},
		{"Aa../08/08/0/0", 0, "go0 take", ".A../08/08/0/1x"},
		{"AB../00/00/0/0", 0, "go0 take", ""},
		{"A.../00/00/0/0", 0, "go0 take", ""},
		{"Ab../00/00/0/0", 0, "go0 take take", ""},
		{"Ab../00/00/0/0", 0, "go0 take enemy", ""},
		{"Ab../00/00/0/0", 0, "go0 take empty", ".A../01/00/0/1x"},
		{"Abb./06/00/0/0", 0, "go0 take go0 take", "..A./08/00/0/1x"},
		{"Abb./07/00/0/0", 0, "go0 take go0 take", ""},
		{"Ab../00/00/0/0", 0, "go0 push0", ".Ab./00/00/0/1"},
		{"AB../00/00/0/0", 0, "go0 push0", ".AB./00/00/0/1"},
		{"AB../00/00/0/0", 0, "go0 push1", "BA../00/00/0/1"},
		{"Abb./00/00/0/0", 0, "go0 push0", ""},
		{"..Ab/00/00/0/0", 2, "go0 push0", ""},
		{"A.../00/00/0/0", 0, "go0 push0", ""},
		{"..Bb/00/00/0/0", 3, "go0 push0", ""},
		{"Ab../00/00/0/0", 0, "go0 push0 go0 take", "..A./01/00/0/1x"},
		{"A.../00/00/0/0", 0, "go0 become1", ".B../00/00/0/1"},
		{".a../00/00/0/0", 1, "become1 go0", "b.../00/00/0/0"},
		{"A.../00/00/1/0", 0, "need0 go0", ".A../00/00/1/1"},
		{"A.../00/00/0/0", 0, "need0 go0", ""},
		{"A.../00/00/1/0", 0, "lose0 go0", ".A../00/00/0/1"},
		{"A.../00/00/0/0", 0, "lose0 go0", ".A../00/00/0/1"},
		{"A.../00/00/1/0", 0, "lose0 need0", ""},
		{"A.../00/00/1/0", 0, "need0 lose0", "A.../00/00/0/1"},
		{"A.b./00/00/1/0", 0, "go0, slide0, slide0 take, lose0 go0", "..A./01/00/1/1x .Ab./00/00/0/1 .Ab./00/00/1/1"},
		{"A.b./00/00/1/0", 1, "go0", ""},
		{"A.b./00/00/1/0", 2, "go0", ""},
		{"A.b./00/00/1/0", -1, "go0", ""},
		{"A.b./00/00/1/0", 4, "go0", ""},
	} {
		checkRun(t, row(t, 4, c.progs), c.p, c.cell, c.want)
	}
}

// P8.2: two ways have one outcome if each ends where the other one left a man of the same kind.
func TestOneOutcome(t *testing.T) {
	// The direction 0 leads from 0 to 4 and 5, the direction 1 from there to 1 and 2, and the direction 2 from both to 3.
	g := ring(t, 6, 2, "slide0 slide1 push2")
	g.Board.Turn = []int{0, 1, 2}
	g.Board.Next = [][]int{{4, -1, -1, -1, 5, -1}, {-1, -1, -1, -1, 1, 2}, {-1, 3, 3, -1, -1, -1}}
	checkRun(t, g, "AAA.../00/00/0/0", 0, ".AAA../00/00/0/1")
	checkRun(t, g, "AAB.../00/00/0/0", 0, ".AAB../00/00/0/1 .ABA../00/00/0/1")
}

// empty returns a code of g without paths.
func empty(g api.Game) api.Code {
	var c api.Code
	for side := range c.Paths {
		for range g.Kinds {
			c.Paths[side] = append(c.Paths[side], make([][]api.Path, g.Board.Cells))
		}
	}
	return c
}

// P8.1: a code need not be that of the game: its paths are what counts.
func TestOtherCodes(t *testing.T) {
	g := row(t, 4, "go0")
	for _, c := range []struct {
		acts    []api.Act
		to      int
		p, want string
	}{
		{nil, 3, "A.bA/00/00/1/0", ""},
		{nil, 2, "A.bA/00/00/1/0", ""},
		{nil, 0, "A.bA/00/00/1/0", "A.bA/00/00/1/1"},
		{nil, 1, "A.bA/00/00/1/0", ".AbA/00/00/1/1"},
		{[]api.Act{{Op: api.Empty, A: 3}, {Op: api.Take, A: 2}}, 2, "A.b./00/00/1/0", "..A./01/00/1/1x"},
		{[]api.Act{{Op: api.Empty, A: 3}, {Op: api.Take, A: 2}}, 2, "A.bA/00/00/1/0", ""},
		{[]api.Act{{Op: api.Take, A: 2}}, 3, "A.b./00/00/1/0", "...A/01/00/1/1x"},
		{[]api.Act{{Op: api.Take, A: 2}, {Op: api.Take, A: 2}}, 2, "A.b./00/00/1/0", ""},
		{[]api.Act{{Op: api.Take, A: 3}, {Op: api.Take, A: 2}, {Op: api.Take, A: 1}}, 0, "Abbb/05/00/1/0", "A.../08/00/1/1x"},
		{[]api.Act{{Op: api.Push, A: 2, B: 0}}, 2, "A.b./00/00/1/0", "b.A./00/00/1/1"},
		{[]api.Act{{Op: api.Push, A: 2, B: 0}}, 0, "A.b./00/00/1/0", ""},
		{[]api.Act{{Op: api.Push, A: 2, B: 2}}, 0, "A.b./00/00/1/0", ""},
		{[]api.Act{{Op: api.Push, A: 1, B: 3}}, 0, "A.b./00/00/1/0", ""},
		{[]api.Act{{Op: api.Push, A: 2, B: 0}, {Op: api.Push, A: 0, B: 1}, {Op: api.Enemy, A: 1}, {Op: api.Become, A: 1}}, 2, "A.b./00/00/1/0", ".bB./00/00/1/1"},
		{[]api.Act{{Op: api.Become, A: 1}, {Op: api.Lose}, {Op: api.Become, A: 0}}, 0, "A.b./00/00/1/0", "A.b./00/00/0/1"},
	} {
		code := empty(g)
		code.Paths[0][0][0] = []api.Path{{Acts: c.acts, To: c.to}}
		p := specimen.Parsed(t, g, c.p)
		if got := specimen.OutcomeTexts(g, gen.Run(g, code, p, 0)); got != c.want {
			t.Errorf("%s, %v, to %d: %q, not %q", c.p, c.acts, c.to, got, c.want)
		}
		for _, cell := range []int{1, 2, 3} {
			if l := gen.Run(g, code, p, cell); len(l) > 0 {
				t.Errorf("%s, %v, cell %d: %v", c.p, c.acts, cell, l)
			}
		}
	}
}

// checkMoves checks the texts of the moves that a code tells.
func checkMoves(t *testing.T, g api.Game, c api.Code, s, want string) {
	t.Helper()
	if got := specimen.Texts(g, gen.Moves(g, c, specimen.Parsed(t, g, s))); got != want {
		t.Errorf("%s: moves %q, not %q", s, got, want)
	}
}

// P8.1, P8.3: moves of all men and drops, with Must only captures if there is one, and none where play.Status says that it is over.
func TestMovesOf(t *testing.T) {
	const progs = "go0 empty, slide0 enemy take"
	g := row(t, 4, progs)
	must := g
	must.Must = true
	c := gen.Compile(g)
	for _, x := range []struct{ p, free, must string }{
		{"A.A./00/00/0/0", ".AA./00/00/0/1 A..A/00/00/0/1", ".AA./00/00/0/1 A..A/00/00/0/1"},
		{"A.ba/00/00/0/0", "..Aa/01/00/0/1 .Aba/00/00/0/1", "..Aa/01/00/0/1"},
		{"A.ba/00/00/0/1", "", ""},
		{".B.a/00/00/0/1", ".a../00/01/0/0 .Ba./00/00/0/0", ".a../00/01/0/0"},
		{"Aa../01/00/0/0", ".A../01/00/0/1 Aa.B/00/00/0/1 AaB./00/00/0/1", ".A../01/00/0/1"},
		{"Ab../08/00/0/0", "Ab.B/07/00/0/1 AbB./07/00/0/1", "Ab.B/07/00/0/1 AbB./07/00/0/1"},
		{"b.../00/00/0/0", "", ""},
		{"b.aa/01/02/1/0", "bBaa/00/02/1/1", "bBaa/00/02/1/1"},
	} {
		checkMoves(t, g, c, x.p, x.free)
		checkMoves(t, must, c, x.p, x.must)
	}
	g.Clauses = []api.Clause{{If: api.Holds, Kind: 1, N: 2, Then: api.Win}}
	checkMoves(t, g, c, "A.ba/00/00/0/0", "")
	checkMoves(t, g, c, "A.ab/00/00/0/0", "..Ab/00/00/0/1 .Aab/00/00/0/1")
}

// P8.1, P8.3: it is over where the interpreter finds no moves, whatever the code tells; and where it finds some, there may be none in the code.
func TestMovesOfOthers(t *testing.T) {
	g := row(t, 3, "go0 enemy take")
	c := gen.Compile(row(t, 3, "go0"))
	checkMoves(t, g, c, "A../00/00/0/0", "")
	checkMoves(t, g, c, ".Aa/00/00/0/0", "")
	checkMoves(t, g, c, "A../01/00/0/0", ".A./01/00/0/1 A.B/00/00/0/1 AB./00/00/0/1")
	g = row(t, 3, "go0")
	checkMoves(t, g, empty(g), "A../00/00/0/0", "")
	checkMoves(t, g, empty(g), "A../01/00/0/0", "A.B/00/00/0/1 AB./00/00/0/1")
	g.Must = true
	c = gen.Compile(row(t, 3, "go0 take, slide0"))
	checkMoves(t, g, c, "A.a/00/00/0/0", ".Aa/00/00/0/1")
	checkMoves(t, g, c, "Aa./00/00/0/0", "")
	checkMoves(t, g, c, "Aa./01/00/0/0", ".A./01/00/0/1")
}

// P8.1, P8.6: paths are counted in any code.
func TestCount(t *testing.T) {
	var c api.Code
	if n := gen.Count(c); n != 0 {
		t.Errorf("%d", n)
	}
	two := []api.Path{{To: -1}, {Acts: []api.Act{{Op: 99, A: -1}}, To: 999}}
	c.Paths[0] = [][][]api.Path{nil, {nil, two, nil, two[:1]}}
	c.Paths[1] = [][][]api.Path{{two, two}}
	if n := gen.Count(c); n != 7 {
		t.Errorf("%d", n)
	}
	if n := gen.Count(gen.Compile(row(t, 4, "go0, slide1, go1 push1, go0"))); n != 2*(3+6+2+3) {
		t.Errorf("%d", n)
	}
}

// P8.1, P8.3: the greatest game and position.
func TestLargest(t *testing.T) {
	b, e := board.Grid(8, 8)
	if e != api.OK {
		t.Fatal(e)
	}
	g := api.Game{Board: b, Rights: api.MaxRights, Blocked: api.Loss, Endless: api.Draw}
	steps := api.Prog{{Op: api.Need, N: 3}, {Op: api.Lose, N: 3}, {Op: api.Go, N: 7}, {Op: api.Take}, {Op: api.Go}, {Op: api.Take}, {Op: api.Push, N: 2}, {Op: api.Become, N: 5}}
	for i := range api.MaxKinds {
		g.Kinds = append(g.Kinds, api.Kind{Name: string(rune('a' + i)), Keep: true, Progs: slices.Repeat([]api.Prog{steps[:6], {{Op: api.Slide, N: 4}}, {steps[7]}, steps}, 2)})
	}
	p := api.Pos{At: slices.Repeat([]int{11}, 64), Hand: [2][]int{slices.Repeat([]int{6}, 6), slices.Repeat([]int{8}, 6)}, Rights: 15}
	p.At[54], p.At[46], p.At[63], p.At[0] = 12, 12, 9, 0
	if !game.Valid(g) || !pos.Valid(g, p) {
		t.Fatal("not valid")
	}
	c := gen.Compile(g)
	l := gen.Run(g, c, p, 63)
	if len(l) != 2 || !l[0].Took || l[0].Pos.At[46] != 9 || l[0].Pos.Hand[0][5] != 8 || l[0].Pos.Rights != 7 || l[1].Took || l[1].Pos.At[63] != 11 {
		t.Errorf("%v", l)
	}
	if l := gen.Moves(g, c, p); len(l) < 6 || !samePositions(l, play.Moves(g, p)) {
		t.Errorf("%v", l)
	}
	p.Hand[0][5] = 7
	if l := gen.Run(g, c, p, 63); len(l) != 1 {
		t.Errorf("%v", l)
	}
}
