package check_test

import (
	"fmt"
	"slices"
	"strings"
	"testing"

	"skewer/api"
	"skewer/check"
	"skewer/gen"
	"skewer/pos"
	"skewer/slice"
	"skewer/solve"
	"skewer/specimen"
	"skewer/sym"
)

// steppers has a kind whose men step and capture forwards.
const steppers = "kind a\nprog go0 empty\nprog go0 enemy take\n"

// changers has such a kind whose men become others when they capture, and these, which step to both sides.
const changers = "kind a\nprog go0 empty\nprog go0 enemy take become1\nkind b\nprog go0\nprog go1\n"

// parsed returns the positions with these texts, with spaces between them.
func parsed(t *testing.T, g api.Game, texts string) []api.Pos {
	t.Helper()
	var l []api.Pos
	for s := range strings.FieldsSeq(texts) {
		l = append(l, specimen.Parsed(t, g, s))
	}
	return l
}

// faultText returns the name of the part and the text of the position, or nothing if nothing is wrong.
func faultText(t *testing.T, g api.Game, f api.Fault, ok bool) string {
	t.Helper()
	names := map[int]string{api.Forward: "forward", api.Backward: "backward", api.Attacks: "attacks", api.Symmetry: "symmetry", api.Progress: "progress"}
	if ok {
		if fmt.Sprint(f) != fmt.Sprint(api.Fault{}) {
			t.Errorf("%v: nothing is wrong, but %v", g, f)
		}
		return ""
	}
	if !pos.Valid(g, f.Pos) {
		t.Fatalf("%v: no position: %v", g, f)
	}
	return names[f.Part] + " " + pos.Print(g, f.Pos)
}

// checkFault checks what is wrong at the positions with these texts.
func checkFault(t *testing.T, name string, g api.Game, d api.Derived, texts, want string) {
	t.Helper()
	f, ok := check.Check(g, d, parsed(t, g, texts))
	if got := faultText(t, g, f, ok); got != want {
		t.Errorf("%s, %s: %q, not %q", name, texts, got, want)
	}
}

// bare returns the code of g without its paths.
func bare(g api.Game) api.Code {
	c := gen.Compile(g)
	for _, kinds := range c.Paths {
		for _, cells := range kinds {
			clear(cells)
		}
	}
	return c
}

// checkAccepted checks that what is derived from g is accepted from p, and returns how many positions can be reached.
func checkAccepted(t *testing.T, g api.Game, p api.Pos) int {
	t.Helper()
	l, e := solve.All(g, p)
	if e != api.OK {
		t.Fatal(e)
	}
	d, f, e := check.Accept(g, p)
	if e != api.OK || faultText(t, g, f, true) != "" || fmt.Sprint(d) != fmt.Sprint(check.Derive(g)) {
		t.Errorf("%v, %v: %v, %v", g, p, f, e)
	}
	return len(l)
}

// P13.1, P13.7: the examples of the chapter.
func TestExamples(t *testing.T) {
	g := specimen.Row(t, 3, steppers, "")
	d := check.Derive(g)
	const can, cannot = "A.a/0/0/0/0", "A../0/0/0/1"
	checkFault(t, "what is derived", g, d, cannot+" "+can, "")
	d.Code = bare(g)
	checkFault(t, "no paths", g, d, can, "forward "+can)
	checkFault(t, "no paths", g, d, cannot+" "+can, "forward "+can)
	checkFault(t, "no paths", g, d, cannot, "")
	checkFault(t, "no paths", g, d, "", "")
}

// P13.1, P13.2: what is derived is what the lower layers derive, and it is accepted.
func TestAccept(t *testing.T) {
	for _, c := range []struct {
		cells          int
		kinds, clauses string
		p              string
		count          int
	}{
		{1, "kind a\n", "", "./0/0/0/0", 1},
		{3, steppers, "", "A.a/0/0/0/0", 3},
		{3, steppers, "few 1 win\n", "A.a/0/0/0/0", 1},
		{4, steppers, "must\n", "A.a./0/0/1/1", 3},
		{4, changers, "", "A..a/00/00/0/0", 4},
		{4, "kind a keep\nprog slide0 take lose0\nprog need0 go0 push0\n", "", "AA.a/0/3/1/0", 147},
	} {
		g := specimen.Row(t, c.cells, c.kinds, c.clauses)
		want := api.Derived{Code: gen.Compile(g), Syms: sym.Find(g), Measure: slice.Of(g)}
		if d := check.Derive(g); fmt.Sprint(d) != fmt.Sprint(want) {
			t.Errorf("%v: %v, not %v", g, d, want)
		}
		if n := checkAccepted(t, g, specimen.Parsed(t, g, c.p)); n != c.count {
			t.Errorf("%v, %s: %d positions", g, c.p, n)
		}
	}
}

// P13.1: errors are those of solve.All, and then there is nothing else.
func TestErrors(t *testing.T) {
	big := specimen.Row(t, 20, "kind a\nprog go0\nprog go1\n", "")
	wrong := big
	wrong.Blocked = 0
	p := specimen.Parsed(t, big, "aAaAaA"+strings.Repeat(".", 14)+"/0/0/0/0")
	for _, c := range []struct {
		name string
		g    api.Game
		p    api.Pos
		want api.Errno
	}{
		{"too many positions", big, p, api.ErrBig},
		{"no game", wrong, p, api.ErrArg},
		{"nothing", api.Game{}, api.Pos{}, api.ErrArg},
		{"no position", big, api.Pos{}, api.ErrArg},
	} {
		d, f, e := check.Accept(c.g, c.p)
		if e != c.want || fmt.Sprint(d, f) != fmt.Sprint(api.Derived{}, api.Fault{}) {
			t.Errorf("%s: %v, %v, %v", c.name, d, f, e)
		}
	}
}

// P13.1: a game is refused where something is wrong, with the position. Of valid games, only those with too many paths are: they have no code.
func TestRefused(t *testing.T) {
	g := specimen.Row(t, 40, "kind a\nprog slide0 slide1 slide0 slide1\nkind b\nprog go0\n", "")
	if n := gen.Count(check.Derive(g).Code); n != 0 {
		t.Fatalf("%d paths", n)
	}
	empty := strings.Repeat(".", 38)
	if n := checkAccepted(t, g, specimen.Parsed(t, g, empty+".B/00/00/0/0")); n != 1 {
		t.Errorf("%d positions", n)
	}
	p := specimen.Parsed(t, g, empty+"B./00/00/1/0")
	d, f, e := check.Accept(g, p)
	if e != api.ErrGame || f.Part != api.Forward || pos.Compare(f.Pos, p) != 0 || fmt.Sprint(d) != fmt.Sprint(api.Derived{}) {
		t.Errorf("%v, %v, %v", d, f, e)
	}
}

// change is something that is changed in what is derived, with what is wrong then at the positions with these texts.
type change struct {
	name   string
	do     func(d *api.Derived)
	texts  string
	wanted string
}

// checkChanges checks what is wrong after each of the changes, and without positions.
func checkChanges(t *testing.T, g api.Game, changes []change) {
	t.Helper()
	for _, c := range changes {
		d := check.Derive(g)
		checkFault(t, "before "+c.name, g, d, c.texts, "")
		c.do(&d)
		checkFault(t, c.name, g, d, c.texts, c.wanted)
		checkFault(t, c.name, g, d, "", "")
	}
}

// P13.1, P13.3: a code is found out at the first position at which it gives other moves, and only there.
func TestForward(t *testing.T) {
	g := specimen.Row(t, 4, changers, "few 0 draw\n")
	const start, other, captures, near, over = "A..a/00/00/0/0", "A..a/00/00/0/1", "Aa../00/00/1/0", "A.a./00/00/0/0", "...A/00/00/0/0"
	const all = over + " " + start + " " + other + " " + captures
	checkChanges(t, g, []change{
		{"no change", func(*api.Derived) {}, all, ""},
		{"no paths", func(d *api.Derived) { d.Code = bare(g) }, all, "forward " + start},
		{"no paths, where none is needed", func(d *api.Derived) { d.Code = bare(g) }, over, ""},
		{"no path to an empty cell", func(d *api.Derived) { d.Code.Paths[0][0][0] = d.Code.Paths[0][0][0][1:] }, all, "forward " + start},
		{"no path that captures", func(d *api.Derived) { d.Code.Paths[0][0][0] = d.Code.Paths[0][0][0][:1] }, all, "forward " + captures},
		{"no paths of a cell without a man", func(d *api.Derived) { d.Code.Paths[0][0][1] = nil }, all, ""},
		{"no paths of a kind without a man", func(d *api.Derived) { clear(d.Code.Paths[0][1]) }, all, ""},
		{"no paths of the other side", func(d *api.Derived) { clear(d.Code.Paths[1][0]) }, start + " " + captures, ""},
		{"no paths of the one side", func(d *api.Derived) { clear(d.Code.Paths[1][0]) }, all, "forward " + other},
		{"another end", func(d *api.Derived) { d.Code.Paths[0][0][0][0].To = 2 }, all, "forward " + start},
		{"another cell that is to be empty", func(d *api.Derived) { d.Code.Paths[0][0][0][0].Acts[0].A = 2 }, start + " " + captures + " " + near, "forward " + near},
		{"no condition, on an empty cell", func(d *api.Derived) { d.Code.Paths[0][0][0][0].Acts = nil }, all, ""},
		{"another kind", func(d *api.Derived) { d.Code.Paths[0][0][0][1].Acts[2].A = 0 }, start + " " + captures, "forward " + captures},
		{"a further way to a cell", func(d *api.Derived) {
			d.Code.Paths[0][0][0] = append(d.Code.Paths[0][0][0], api.Path{To: 1})
		}, all, ""},
		{"a further way", func(d *api.Derived) {
			d.Code.Paths[0][0][0] = append(d.Code.Paths[0][0][0], api.Path{To: 2})
		}, over + " " + other + " " + captures, "forward " + captures},
		{"another order", func(d *api.Derived) { slices.Reverse(d.Code.Paths[0][0][0]) }, all, ""},
	})
	ended := specimen.Row(t, 4, changers, "few 1 draw\n")
	checkChanges(t, ended, []change{{"no paths, where a clause holds", func(d *api.Derived) { d.Code = bare(g) }, all, ""}})
}

// P13.1, P13.3: with Must, captures that the code adds or leaves out count for all moves.
func TestMust(t *testing.T) {
	g := specimen.Row(t, 4, steppers, "must\n")
	const start = "Aa.a/0/0/0/1"
	checkChanges(t, g, []change{
		{"no change", func(*api.Derived) {}, start, ""},
		{"no capture", func(d *api.Derived) { d.Code.Paths[1][0][1] = nil }, start, "forward " + start},
		{"only the capture", func(d *api.Derived) { d.Code.Paths[1][0][3] = nil }, start, ""},
	})
}

// P13.1, P13.4: a list with something that is no symmetry is found out at the first position, whatever it is; which symmetries are there does not matter.
func TestSymmetry(t *testing.T) {
	g := specimen.Row(t, 3, "kind a\nprog go0 empty\nprog go1 take\nprog go1 empty\nprog go0 take\n", "few 1 draw\n")
	const over, start = "A../0/0/0/0", "A.a/0/0/0/0"
	const all, first = over + " " + start, "symmetry " + over
	id, swap := api.Sym{Cells: []int{0, 1, 2}, Dirs: []int{0, 1}}, api.Sym{Cells: []int{2, 1, 0}, Dirs: []int{1, 0}}
	for name, c := range map[string]struct {
		syms []api.Sym
		want string
	}{
		"none":                {nil, ""},
		"all":                 {[]api.Sym{id, swap}, ""},
		"one":                 {[]api.Sym{swap}, ""},
		"several times":       {[]api.Sym{swap, id, swap, swap}, ""},
		"nothing":             {[]api.Sym{{}}, first},
		"nothing, at the end": {[]api.Sym{id, swap, {}}, first},
		"nothing, in between": {[]api.Sym{id, {}, swap}, first},
		"other directions":    {[]api.Sym{id, {Cells: swap.Cells, Dirs: id.Dirs}}, first},
		"other cells":         {[]api.Sym{{Cells: []int{1, 0, 2}, Dirs: id.Dirs}}, first},
		"a cell twice":        {[]api.Sym{{Cells: []int{0, 1, 1}, Dirs: id.Dirs}}, first},
		"a cell too many":     {[]api.Sym{{Cells: []int{0, 1, 2, 3}, Dirs: id.Dirs}}, first},
		"no cell":             {[]api.Sym{{Cells: []int{0, 1, -1}, Dirs: id.Dirs}}, first},
		"no directions":       {[]api.Sym{{Cells: id.Cells}}, first},
	} {
		checkChanges(t, g, []change{{name, func(d *api.Derived) { d.Syms = c.syms }, all, c.want}})
	}
	held := specimen.Row(t, 3, "kind a\nprog go0\nprog go1\n", "holds a 0 win\n")
	checkChanges(t, held, []change{{"a clause", func(d *api.Derived) { d.Syms = append(d.Syms, swap) }, start, "symmetry " + start}})
}

// P13.1, P13.5: a measure is found out at the first position, exactly if it is not right.
func TestProgress(t *testing.T) {
	g := specimen.Row(t, 4, changers, "")
	const over, start = "...A/00/00/0/0", "A..a/00/00/0/0"
	for _, c := range []struct {
		weights []int
		right   bool
	}{
		{[]int{2, 1}, true}, {[]int{1, 1}, true}, {[]int{6, 6}, true}, {[]int{6, 1}, true},
		{[]int{1, 2}, false}, {[]int{5, 6}, false}, {[]int{7, 1}, false}, {[]int{1, 0}, false}, {[]int{0, 0}, false}, {[]int{7, 7}, false}, {[]int{2, -1}, false},
		{nil, false}, {[]int{2}, false}, {[]int{2, 1, 1}, false}, {specimen.Edges(), false},
	} {
		want := ""
		if !c.right {
			want = "progress " + over
		}
		checkChanges(t, g, []change{{fmt.Sprint(c.weights), func(d *api.Derived) { d.Measure.Kinds = c.weights }, over + " " + start, want}})
	}
}

// P13.1, P13.6: of several faults, the one at the first position of the list is found, in whatever order the list is, and there the one in the first part.
func TestOrder(t *testing.T) {
	g := specimen.Row(t, 4, changers, "")
	const over, start, moved = "...A/00/00/0/0", "A..a/00/00/0/0", ".A.a/00/00/0/1"
	code := func(d *api.Derived) { d.Code = bare(g) }
	symmetry := func(d *api.Derived) { d.Syms = []api.Sym{{}} }
	measure := func(d *api.Derived) { d.Measure.Kinds = nil }
	both := func(d *api.Derived) { code(d); symmetry(d) }
	three := func(d *api.Derived) { both(d); measure(d) }
	checkChanges(t, g, []change{
		{"the code", code, over + " " + start + " " + moved, "forward " + start},
		{"the code, the other way around", code, moved + " " + start + " " + over, "forward " + moved},
		{"the code, several times", code, over + " " + over + " " + moved + " " + start + " " + moved, "forward " + moved},
		{"the code and a symmetry", both, start + " " + over, "forward " + start},
		{"the code and a symmetry, at an end", both, over + " " + start, "symmetry " + over},
		{"the code and the measure", func(d *api.Derived) { code(d); measure(d) }, start, "forward " + start},
		{"the code and the measure, at an end", func(d *api.Derived) { code(d); measure(d) }, over + " " + start, "progress " + over},
		{"a symmetry and the measure", func(d *api.Derived) { symmetry(d); measure(d) }, start + " " + over, "symmetry " + start},
		{"all", three, start + " " + over, "forward " + start},
		{"all, at an end", three, over + " " + start, "symmetry " + over},
	})
}
