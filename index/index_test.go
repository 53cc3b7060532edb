package index_test

import (
	"fmt"
	"math"
	"slices"
	"strings"
	"testing"

	"skewer/api"
	"skewer/index"
	"skewer/play"
	"skewer/pos"
	"skewer/specimen"
)

// of returns the material with these men, without men in the hands of as many kinds as there are then, and without rights.
func of(men ...int) api.Material {
	kinds := max(0, len(men)-1) / 2
	return api.Material{Men: men, Hand: [2][]int{make([]int, kinds), make([]int, kinds)}}
}

// same reports whether both materials are equal.
func same(m, n api.Material) bool {
	return slices.Equal(m.Men, n.Men) && slices.Equal(m.Hand[0], n.Hand[0]) && slices.Equal(m.Hand[1], n.Hand[1]) && m.Rights == n.Rights && m.Side == n.Side
}

// checkSize checks the size of m, and whether it is valid.
func checkSize(t *testing.T, g api.Game, m api.Material, want int, wantE api.Errno) {
	t.Helper()
	if size, e := index.Size(g, m); size != want || e != wantE {
		t.Errorf("%v: %d, %v, not %d, %v", m, size, e, want, wantE)
	}
	if got := index.Valid(g, m); got != (wantE != api.ErrIndex) {
		t.Errorf("%v: valid: %t", m, got)
	}
}

// checkNone checks that there is no position with the number i, because of this error.
func checkNone(t *testing.T, g api.Game, m api.Material, i int, want api.Errno) {
	t.Helper()
	p, e := index.At(g, m, i)
	if e != want || fmt.Sprint(p) != fmt.Sprint(api.Pos{}) {
		t.Errorf("%v, %d: %v, %v, not %v", m, i, p, e, want)
	}
}

// P14.1: the examples of the chapter.
func TestExamples(t *testing.T) {
	g := specimen.Still(4, 0, false)
	at := func(cells ...int) api.Pos {
		return api.Pos{At: cells, Hand: [2][]int{{0}, {0}}}
	}
	m := index.Of(g, at(0, 1, 0, 2))
	if !same(m, of(2, 1, 1)) {
		t.Fatal(m)
	}
	checkSize(t, g, m, 12, api.OK)
	for _, c := range []struct {
		p    api.Pos
		want int
	}{{at(0, 0, 1, 2), 0}, {at(0, 1, 0, 2), 2}, {at(2, 1, 0, 0), 11}} {
		if rank, e := index.Rank(g, c.p); rank != c.want || e != api.OK {
			t.Errorf("%v: %d, %v", c.p, rank, e)
		}
	}
	if p, e := index.At(g, m, 3); e != api.OK || pos.Compare(p, at(0, 1, 2, 0)) != 0 {
		t.Errorf("%v, %v", p, e)
	}
	checkNone(t, g, m, 12, api.ErrIndex)
	checkNone(t, g, m, -1, api.ErrIndex)
}

// P14.1: a material has the number of cells with each content, also if there is none, and all else from the position.
func TestOf(t *testing.T) {
	g := specimen.Still(5, 2, false, true)
	for s, want := range map[string]api.Material{
		"...../00/00/0/0": {Men: []int{5, 0, 0, 0, 0}, Hand: [2][]int{{0, 0}, {0, 0}}},
		"AaBb./00/00/0/1": {Men: []int{1, 1, 1, 1, 1}, Hand: [2][]int{{0, 0}, {0, 0}}, Side: 1},
		"A.A.A/02/08/3/0": {Men: []int{2, 3, 0, 0, 0}, Hand: [2][]int{{0, 2}, {0, 8}}, Rights: 3},
		"bbbbb/08/00/1/1": {Men: []int{0, 0, 0, 0, 5}, Hand: [2][]int{{0, 8}, {0, 0}}, Rights: 1, Side: 1},
		"aBa.B/00/01/2/0": {Men: []int{1, 0, 2, 2, 0}, Hand: [2][]int{{0, 0}, {0, 1}}, Rights: 2},
	} {
		m := index.Of(g, specimen.Parsed(t, g, s))
		if !same(m, want) || !index.Valid(g, m) {
			t.Errorf("%s: %v", s, m)
		}
	}
}

// P14.1, P14.7: the men of a material are as many as there are cells, and none of their numbers is negative; otherwise it is refused.
func TestMen(t *testing.T) {
	g := specimen.Still(4, 0, false)
	for _, c := range []struct {
		men  []int
		want int
	}{
		{[]int{4, 0, 0}, 1}, {[]int{0, 4, 0}, 1}, {[]int{0, 0, 4}, 1}, {[]int{3, 1, 0}, 4}, {[]int{2, 1, 1}, 12}, {[]int{1, 2, 1}, 12}, {[]int{0, 2, 2}, 6},
		// Too many or too few men, in all or of some content.
		{[]int{3, 0, 0}, 0}, {[]int{5, 0, 0}, 0}, {[]int{4, 1, 0}, 0}, {[]int{0, 0, 0}, 0}, {[]int{2, 2, 2}, 0},
		{[]int{5, -1, 0}, 0}, {[]int{4, 1, -1}, 0}, {[]int{-1, 5, 0}, 0}, {[]int{-4, 4, 4}, 0}, {[]int{-4, 0, 0}, 0},
		// Sums that are the number of cells if there is no room for them.
		{[]int{math.MaxInt, math.MaxInt, 6}, 0}, {[]int{math.MinInt, math.MinInt, 4}, 0}, {[]int{math.MaxInt, 1, math.MinInt + 4}, 0}, {[]int{4, math.MaxInt, -math.MaxInt}, 0}, {[]int{1 << 32, 0, 4}, 0},
		// Too many or too few contents.
		{nil, 0}, {[]int{4}, 0}, {[]int{4, 0}, 0}, {[]int{4, 0, 0, 0}, 0}, {[]int{4, 0, 0, 0, 0}, 0}, {[]int{0, 0, 0, 4, 0}, 0}, {make([]int, 1000), 0},
	} {
		m := of(2, 1, 1)
		m.Men = c.men
		if c.want > 0 {
			checkSize(t, g, m, c.want, api.OK)
			continue
		}
		checkSize(t, g, m, 0, api.ErrIndex)
		for _, i := range []int{-1, 0, 1} {
			checkNone(t, g, m, i, api.ErrIndex)
		}
	}
}

// P14.1, P14.7: hands, rights and side of a material are those of some valid position of the game; otherwise it is refused.
func TestRest(t *testing.T) {
	for rights := range api.MaxRights + 1 {
		g := specimen.Still(4, rights, false, true)
		for _, n := range specimen.Edges() {
			check := func(right bool, change func(*api.Material)) {
				t.Helper()
				m := of(2, 1, 0, 1, 0)
				change(&m)
				if right {
					checkSize(t, g, m, 12, api.OK)
					return
				}
				checkSize(t, g, m, 0, api.ErrIndex)
				checkNone(t, g, m, 0, api.ErrIndex)
			}
			for side := range 2 {
				check(n == 0, func(m *api.Material) { m.Hand[side][0] = n })
				check(n >= 0 && n <= 8, func(m *api.Material) { m.Hand[side][1] = n })
				if n >= 0 && n <= 300 {
					check(n == 2, func(m *api.Material) { m.Hand[side] = make([]int, n) })
				}
			}
			check(n >= 0 && n < []int{1, 2, 4, 8, 16}[rights], func(m *api.Material) { m.Rights = n })
			check(n == 0 || n == 1, func(m *api.Material) { m.Side = n })
		}
	}
}

// P14.1, P14.7: sizes up to 2^40 are told, and greater ones refused. No size is 2^40, and of those of all materials on at most 64 cells, the next ones are tested here.
func TestSizes(t *testing.T) {
	for _, c := range []struct {
		men  []int
		want int
	}{
		{[]int{1, 0, 0}, 1}, {[]int{0, 0, 1}, 1}, {[]int{64, 0, 0}, 1}, {[]int{0, 0, 64}, 1}, {[]int{63, 1, 0}, 64}, {[]int{1, 0, 63}, 64},
		{[]int{62, 1, 1}, 64 * 63}, {[]int{62, 2, 0}, 32 * 63}, {[]int{0, 2, 62}, 32 * 63},
		{[]int{1, 1, 1, 1, 1, 1, 1, 1, 1, 1, 1, 1, 1}, 6227020800}, {[]int{2, 1, 1, 1, 1, 1, 1, 1, 1, 1, 1, 1, 1}, 43589145600}, {[]int{3, 1, 1, 1, 1, 1, 1, 1, 1, 1, 1, 1, 1}, 217945728000},
		{[]int{2, 2, 1, 1, 1, 1, 1, 1, 1, 1, 1, 1, 1}, 326918592000}, {[]int{2, 2, 2, 1, 1, 1, 1, 1, 1, 1, 1, 1, 1}, 0}, {[]int{4, 1, 1, 1, 1, 1, 1, 1, 1, 1, 1, 1, 1}, 871782912000}, {[]int{5, 1, 1, 1, 1, 1, 1, 1, 1, 1, 1, 1, 1}, 0},
		{[]int{53, 11, 0}, 743595781824}, {[]int{11, 53, 0}, 743595781824}, {[]int{0, 11, 53}, 743595781824}, {[]int{52, 12, 0}, 0}, {[]int{12, 0, 52}, 0},
		{[]int{21, 21, 0}, 538257874440}, {[]int{0, 21, 22}, 1052049481860}, {[]int{22, 22, 0}, 0},
		{[]int{54, 2, 1, 1, 1, 1, 1}, 1099402365600}, {[]int{1, 1, 1, 1, 1, 2, 54}, 1099402365600}, {[]int{1, 2, 1, 54, 1, 1, 1, 0, 0}, 1099402365600},
		{[]int{4, 4, 4, 2, 2, 2, 1}, 0}, {[]int{1, 2, 2, 2, 4, 4, 4}, 0}, {[]int{2, 4, 0, 1, 4, 2, 0, 2, 4}, 0},
		// Sizes that are very great: some are about 2^40 or less if there is no room for them.
		{[]int{32, 32, 0}, 0}, {[]int{0, 16, 16, 16, 16}, 0}, {[]int{4, 5, 5, 5, 5, 5, 5, 5, 5, 5, 5, 5, 5}, 0}, {[]int{0, 0, 0, 6, 6, 7, 7, 7, 6, 6, 6, 6, 7}, 0}, {[]int{40, 2, 2, 2, 2, 2, 2, 2, 2, 2, 2, 2, 2}, 0},
	} {
		cells := 0
		for _, n := range c.men {
			cells += n
		}
		g := specimen.Still(cells, 0, make([]bool, len(c.men)/2)...)
		m := of(c.men...)
		if c.want > 0 {
			checkSize(t, g, m, c.want, api.OK)
			continue
		}
		checkSize(t, g, m, 0, api.ErrBig)
		// A material that is not valid is refused as such, however great its size would be.
		m.Side = 2
		checkSize(t, g, m, 0, api.ErrIndex)
		m.Side, m.Men[0] = 0, m.Men[0]+1
		checkSize(t, g, m, 0, api.ErrIndex)
	}
}

// P14.1, P14.7: of several errors, the first one is told.
func TestErrors(t *testing.T) {
	g := specimen.Still(64, 1, false)
	many := specimen.Parsed(t, g, strings.Repeat("A.", 32)+"/0/0/0/0")
	few := specimen.Parsed(t, g, strings.Repeat("Aa", 4)+strings.Repeat(".", 56)+"/0/0/1/1")
	wrong := func(p api.Pos, change func(p *api.Pos)) api.Pos {
		p = specimen.Copied(p)
		change(&p)
		return p
	}
	last := int(64) * 63 * 62 * 61 / 24 * (60 * 59 * 58 * 57 / 24)
	for _, c := range []struct {
		name string
		p    api.Pos
		want api.Errno
	}{
		{"few men", few, api.OK},
		{"many men", many, api.ErrBig},
		{"no cells", api.Pos{}, api.ErrPos},
		{"a cell less", wrong(few, func(p *api.Pos) { p.At = p.At[:63] }), api.ErrPos},
		{"a cell more", wrong(few, func(p *api.Pos) { p.At = append(p.At, 0) }), api.ErrPos},
		{"no content", wrong(few, func(p *api.Pos) { p.At[63] = 3 }), api.ErrPos},
		{"a negative content", wrong(few, func(p *api.Pos) { p.At[0] = -1 }), api.ErrPos},
		{"a hand", wrong(few, func(p *api.Pos) { p.Hand[1][0] = 1 }), api.ErrPos},
		{"a right", wrong(few, func(p *api.Pos) { p.Rights = 2 }), api.ErrPos},
		{"a side", wrong(few, func(p *api.Pos) { p.Side = -1 }), api.ErrPos},
		{"many men, and no content", wrong(many, func(p *api.Pos) { p.At[0] = 4 }), api.ErrPos},
		{"many men, and a side", wrong(many, func(p *api.Pos) { p.Side = 2 }), api.ErrPos},
	} {
		rank, e := index.Rank(g, c.p)
		if e != c.want || e != api.OK && rank != 0 {
			t.Errorf("%s: %d, %v, not %v", c.name, rank, e, c.want)
		}
	}
	m, big := index.Of(g, few), index.Of(g, many)
	checkSize(t, g, m, last, api.OK)
	for _, i := range []int{0, 1, last - 1} {
		if p, e := index.At(g, m, i); e != api.OK || !pos.Valid(g, p) {
			t.Errorf("%d: %v, %v", i, p, e)
		}
	}
	for _, i := range []int{math.MinInt, -last, -2, -1, last, last + 1, 1 << 40, 1<<40 + 1, math.MaxInt} {
		checkNone(t, g, m, i, api.ErrIndex)
		checkNone(t, g, big, i, api.ErrBig)
	}
	checkNone(t, g, big, 0, api.ErrBig)
	big.Men[0]++
	checkNone(t, g, big, 0, api.ErrIndex)
}

// P14.6: a man that goes somewhere else changes no count of men, nor does one that pushes; what is captured makes an empty cell, what is dropped fills one, and what becomes something else is counted as that.
func TestMoves(t *testing.T) {
	for _, c := range []struct {
		keep, prog, p, q string
		p1, q1           []int
		hand             string
	}{
		{"", "go0", "A.../00/00/0/0", ".A../00/00/0/1", []int{3, 1, 0, 0, 0}, []int{3, 1, 0, 0, 0}, "[[0 0] [0 0]]"},
		{"", "go0", "..a./00/00/0/1", ".a../00/00/0/0", []int{3, 0, 1, 0, 0}, []int{3, 0, 1, 0, 0}, "[[0 0] [0 0]]"},
		{"", "slide0", "A..b/00/00/0/0", "..Ab/00/00/0/1", []int{2, 1, 0, 0, 1}, []int{2, 1, 0, 0, 1}, "[[0 0] [0 0]]"},
		{"", "go0 push0", "Ab../00/00/0/0", ".Ab./00/00/0/1", []int{2, 1, 0, 0, 1}, []int{2, 1, 0, 0, 1}, "[[0 0] [0 0]]"},
		{"", "go0 take", "Ab../00/00/0/0", ".A../00/00/0/1", []int{2, 1, 0, 0, 1}, []int{3, 1, 0, 0, 0}, "[[0 0] [0 0]]"},
		{"a", "go0 take", "Ab../50/00/0/0", ".A../50/00/0/1", []int{2, 1, 0, 0, 1}, []int{3, 1, 0, 0, 0}, "[[5 0] [0 0]]"},
		{"b", "go0 take", "Ab../00/00/0/0", ".A../01/00/0/1", []int{2, 1, 0, 0, 1}, []int{3, 1, 0, 0, 0}, "[[0 1] [0 0]]"},
		{"", "go0 take", ".Ba./00/00/0/1", ".a../00/00/0/0", []int{2, 0, 1, 1, 0}, []int{3, 0, 1, 0, 0}, "[[0 0] [0 0]]"},
		{"", "go0 take go0 take", "Aba./00/00/0/0", "..A./00/00/0/1", []int{1, 1, 1, 0, 1}, []int{3, 1, 0, 0, 0}, "[[0 0] [0 0]]"},
		{"", "go0 become1", "A.../00/00/0/0", ".B../00/00/0/1", []int{3, 1, 0, 0, 0}, []int{3, 0, 0, 1, 0}, "[[0 0] [0 0]]"},
		{"", "go0 take become1", ".Aa./00/00/0/1", ".b../00/00/0/0", []int{2, 1, 1, 0, 0}, []int{3, 0, 0, 0, 1}, "[[0 0] [0 0]]"},
		{"a", "go0", "...b/20/00/0/0", "A..b/10/00/0/1", []int{3, 0, 0, 0, 1}, []int{2, 1, 0, 0, 1}, "[[1 0] [0 0]]"},
	} {
		kinds := "kind a\nprog " + c.prog + "\nkind b\n"
		for name := range strings.SplitSeq(c.keep, "") {
			kinds = strings.Replace(kinds, "kind "+name, "kind "+name+" keep", 1)
		}
		g := specimen.Row(t, 4, kinds, "")
		p, q := specimen.Parsed(t, g, c.p), specimen.Parsed(t, g, c.q)
		if !play.Legal(g, p, q) {
			t.Errorf("%s: %s is no move from %s", c.prog, c.q, c.p)
		}
		before, after := index.Of(g, p), index.Of(g, q)
		if !slices.Equal(before.Men, c.p1) || !slices.Equal(after.Men, c.q1) || fmt.Sprint(after.Hand) != c.hand {
			t.Errorf("%s: %v, then %v", c.prog, before, after)
		}
	}
}
