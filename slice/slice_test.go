package slice_test

import (
	"fmt"
	"math"
	"slices"
	"strings"
	"testing"

	"skewer/api"
	"skewer/game"
	"skewer/play"
	"skewer/pos"
	"skewer/slice"
	"skewer/specimen"
)

// row returns the game on a row of four cells whose kinds a, b, .. have these programs, with commas between them; the names of kinds that are kept are among keep.
func row(t *testing.T, keep string, kinds ...string) api.Game {
	t.Helper()
	text := ""
	for i, progs := range kinds {
		name := string(rune('a' + i))
		text += "kind " + name
		if strings.Contains(keep, name) {
			text += " keep"
		}
		for p := range strings.SplitSeq(progs, ", ") {
			if p != "" {
				text += "\nprog " + p
			}
		}
		text += "\n"
	}
	return specimen.Row(t, 4, text, "")
}

// weights returns the measure with these weights.
func weights(l ...int) api.Measure {
	return api.Measure{Kinds: l}
}

// P12.1: the examples of the chapter.
func TestExamples(t *testing.T) {
	g := row(t, "", "go0 become1", "go0")
	m := slice.Of(g)
	if !slices.Equal(m.Kinds, []int{2, 1}) {
		t.Fatal(m)
	}
	var l []api.Pos
	for s, want := range map[string]int{"Ab../00/00/1/0": 4, ".a../00/00/0/1": 2} {
		p := specimen.Parsed(t, g, s)
		if got := slice.Level(m, p); got != want {
			t.Errorf("%s: %d, not %d", s, got, want)
		}
	}
	for _, s := range []string{"Ab../00/00/1/0", ".a../00/00/0/1", "A.A./00/00/0/0"} {
		l = append(l, specimen.Parsed(t, g, s))
	}
	if got := fmt.Sprint(slice.Cut(m, l)); got != "[[1] [0 2]]" {
		t.Error(got)
	}
	if slice.Valid(g, weights(1, 2)) || !slice.Valid(g, weights(1, 1)) || !slice.Valid(g, weights(6, 6)) {
		t.Error("Valid")
	}
}

// P12.1, P12.5: a kind has the number of kinds to which it leads: itself, those that it becomes, those that these become, and so on; and that is a right measure.
func TestOf(t *testing.T) {
	const none = "go0"
	for _, c := range []struct {
		kinds []string
		want  []int
	}{
		{[]string{""}, []int{1}},
		{[]string{none}, []int{1}},
		{[]string{"go0 become0"}, []int{1}},
		{[]string{"", ""}, []int{1, 1}},
		{[]string{"", "go0 become0"}, []int{1, 2}},
		{[]string{"go0 become1", "go0 become0"}, []int{2, 2}},
		{[]string{"go0 become1", "go0 become2", none}, []int{3, 2, 1}},
		{[]string{"go0 become1", "go0 become2", "go0 become0"}, []int{3, 3, 3}},
		{[]string{"go0 become1", "go0 become0, go0 become2", none}, []int{3, 3, 1}},
		{[]string{"go0 become1", "go0 become2", "go0 become1"}, []int{3, 2, 2}},
		// Two ways to one kind, and one kind with two ways.
		{[]string{"go0 become1, go0 become2", "go0 become3", "go0 become3", none}, []int{4, 2, 2, 1}},
		{[]string{"go0 become1, go0 become2", none, none}, []int{3, 1, 1}},
		{[]string{"go0 become1, slide0 become1, go1 become1", none}, []int{2, 1}},
		// As many as there can be, upwards, downwards, up and down, and around.
		{[]string{"go0 become1", "go0 become2", "go0 become3", "go0 become4", "go0 become5", ""}, []int{6, 5, 4, 3, 2, 1}},
		{[]string{"", "go0 become0", "go0 become1", "go0 become2", "go0 become3", "go0 become4"}, []int{1, 2, 3, 4, 5, 6}},
		{[]string{"go0 become5", "go0 become4", "go0 become3", "", "go0 become2", "go0 become1"}, []int{6, 4, 2, 1, 3, 5}},
		{[]string{"go0 become3", "go0 become0", "go0 become5", "go0 become4", "go0 become2", "go0 become1"}, []int{6, 6, 6, 6, 6, 6}},
		// Two parts that have nothing to do with each other.
		{[]string{"go0 become3", "go0 become4", "", "go0 become0", "", "go0 become2"}, []int{2, 2, 1, 2, 1, 2}},
		// Become stands in any program, at any place, and also where it is never done.
		{[]string{"go0, go1 empty, become1", none}, []int{2, 1}},
		{[]string{"become1 go0 enemy take", none}, []int{2, 1}},
		{[]string{"go0 enemy become1 take go0 empty", none}, []int{2, 1}},
		{[]string{"empty enemy friend become1", none}, []int{2, 1}},
		{[]string{"lose0 need0 become1", none}, []int{2, 1}},
		// The numbers of other steps are no kinds.
		{[]string{"go1 slide1 push1 empty", "go0 need0 lose0"}, []int{1, 1}},
	} {
		for _, keep := range []string{"", "abcdef"} {
			g := row(t, keep, c.kinds...)
			m := slice.Of(g)
			if !slices.Equal(m.Kinds, c.want) {
				t.Errorf("%q: %v, not %v", c.kinds, m, c.want)
			}
			if !slice.Valid(g, m) {
				t.Errorf("%q: %v is not valid", c.kinds, m)
			}
		}
	}
}

// P12.1, P12.5: a measure is right if each kind has a weight from 1 to 6, and none becomes one with a greater weight.
func TestValid(t *testing.T) {
	pair, chain, both := []string{"go0 become1", "go0"}, []string{"go0 become1", "go0 become2", ""}, []string{"go0 become1", "go0 become0"}
	last := []string{"go0, go0 empty, go0 enemy become1 take", ""}
	for _, c := range []struct {
		kinds []string
		m     []int
		want  bool
	}{
		{pair, []int{2, 1}, true}, {pair, []int{1, 1}, true}, {pair, []int{6, 6}, true}, {pair, []int{6, 1}, true}, {pair, []int{5, 4}, true},
		{pair, []int{1, 2}, false}, {pair, []int{5, 6}, false}, {pair, []int{1, 6}, false},
		{pair, []int{7, 1}, false}, {pair, []int{7, 7}, false}, {pair, []int{2, 0}, false}, {pair, []int{0, 0}, false}, {pair, []int{2, -1}, false},
		{pair, []int{math.MaxInt, 1}, false}, {pair, []int{1, math.MinInt}, false},
		{pair, nil, false}, {pair, []int{2}, false}, {pair, []int{2, 1, 1}, false},
		{[]string{"", ""}, []int{1, 6}, true}, {[]string{"", ""}, []int{6, 1}, true}, {[]string{"", ""}, []int{0, 1}, false}, {[]string{"", ""}, []int{1, 7}, false},
		{[]string{"go0 become0"}, []int{3}, true},
		{both, []int{2, 2}, true}, {both, []int{1, 1}, true}, {both, []int{2, 1}, false}, {both, []int{1, 2}, false},
		{chain, []int{3, 2, 1}, true}, {chain, []int{3, 1, 1}, true}, {chain, []int{3, 3, 1}, true}, {chain, []int{1, 1, 1}, true},
		{chain, []int{3, 1, 2}, false}, {chain, []int{1, 2, 1}, false}, {chain, []int{1, 2, 3}, false},
		{last, []int{1, 1}, true}, {last, []int{1, 2}, false},
		{[]string{"lose0 need0 become1", ""}, []int{1, 2}, false},
		{[]string{"go1 slide1 push1 empty", "go0 need0 lose0"}, []int{1, 2}, true}, {[]string{"go1 slide1 push1 empty", "go0 need0 lose0"}, []int{2, 1}, true},
		{slices.Repeat([]string{""}, 6), []int{1, 2, 3, 4, 5, 6}, true}, {slices.Repeat([]string{""}, 6), []int{6, 6, 6, 6, 6, 7}, false},
		{slices.Repeat([]string{""}, 6), []int{6, 6, 6, 6, 6}, false}, {slices.Repeat([]string{""}, 6), []int{6, 6, 6, 6, 6, 6, 6}, false},
	} {
		if got := slice.Valid(row(t, "", c.kinds...), weights(c.m...)); got != c.want {
			t.Errorf("%q, %v: %t", c.kinds, c.m, got)
		}
	}
}

// P12.1: men of both sides count with their weights, on the board and in both hands, and rights that are there with 1; the turn does not count.
func TestLevel(t *testing.T) {
	g := row(t, "ab", "go0 become1", "go0 become2", "")
	g.Rights = 4
	for _, c := range []struct {
		p         string
		level     int // by the measure of the game: 3, 2, 1
		otherwise int // by the weights 5, 5, 4
	}{
		{"..../000/000/0/0", 0, 0}, {"..../000/000/0/1", 0, 0},
		{"A.../000/000/0/0", 3, 5}, {"...a/000/000/0/0", 3, 5}, {"...a/000/000/0/1", 3, 5},
		{".B../000/000/0/0", 2, 5}, {"..b./000/000/0/0", 2, 5},
		{"C.../000/000/0/0", 1, 4}, {"...c/000/000/0/0", 1, 4},
		{"A.a./000/000/0/0", 6, 10}, {"AbCc/000/000/0/0", 7, 18}, {"AAAA/000/000/0/0", 12, 20},
		{"..../100/000/0/0", 3, 5}, {"..../000/100/0/0", 3, 5}, {"..../010/000/0/0", 2, 5}, {"..../000/010/0/0", 2, 5},
		{"..../800/000/0/0", 24, 40}, {"..../000/080/0/0", 16, 40}, {"..../880/880/0/1", 80, 160},
		{"..../000/000/1/0", 1, 1}, {"..../000/000/2/0", 1, 1}, {"..../000/000/4/0", 1, 1}, {"..../000/000/8/0", 1, 1},
		{"..../000/000/3/0", 2, 2}, {"..../000/000/10/0", 2, 2}, {"..../000/000/14/0", 3, 3}, {"..../000/000/15/1", 4, 4},
		{"ABca/120/810/11/1", 9 + 7 + 26 + 3, 19 + 15 + 45 + 3},
	} {
		p := specimen.Parsed(t, g, c.p)
		if got := slice.Level(slice.Of(g), p); got != c.level {
			t.Errorf("%s: %d, not %d", c.p, got, c.level)
		}
		if got := slice.Level(weights(5, 5, 4), p); got != c.otherwise {
			t.Errorf("%s, otherwise: %d, not %d", c.p, got, c.otherwise)
		}
	}
}

// P12.1, P12.6: the least level and the greatest one, with as many men as there can be.
func TestMost(t *testing.T) {
	g := row(t, "abcdef", slices.Repeat([]string{""}, api.MaxKinds)...)
	g.Board.Cells, g.Rights = api.MaxCells, api.MaxRights
	g.Board.Next = [][]int{slices.Repeat([]int{-1}, api.MaxCells), slices.Repeat([]int{-1}, api.MaxCells)}
	p := api.Pos{At: make([]int, api.MaxCells), Hand: [2][]int{make([]int, api.MaxKinds), make([]int, api.MaxKinds)}}
	if !game.Valid(g) || !pos.Valid(g, p) {
		t.Fatal("not valid")
	}
	least, most := weights(1, 1, 1, 1, 1, 1), weights(6, 6, 6, 6, 6, 6)
	if got := slice.Level(most, p); got != 0 {
		t.Error(got)
	}
	for c := range p.At {
		p.At[c] = 1 + c%(2*api.MaxKinds)
	}
	for kind := range api.MaxKinds {
		p.Hand[0][kind], p.Hand[1][kind] = api.MaxHand, api.MaxHand
	}
	const men = api.MaxCells + 2*api.MaxKinds*api.MaxHand
	if got := slice.Level(least, p); got != men {
		t.Errorf("%d, not %d", got, men)
	}
	p.Rights = 1<<api.MaxRights - 1
	if got := slice.Level(most, p); got != 6*men+4 {
		t.Errorf("%d, not %d", got, 6*men+4)
	}
}

// P12.1: a position leaves for one with a lesser level, not for one with the same level or a greater one.
func TestLeaves(t *testing.T) {
	g := row(t, "a", "go0 become1", "")
	// The levels are 2, 2, 1, 0, 3, 3.
	l := []string{"A.../00/00/0/0", "..bb/00/00/0/1", "..../00/00/1/0", "..../00/00/0/0", "..../10/00/1/1", "aB../00/00/0/0"}
	want := []string{"001100", "001100", "000100", "000000", "111100", "111100"}
	for i, s := range l {
		told := ""
		for _, r := range l {
			leaves := slice.Leaves(slice.Of(g), specimen.Parsed(t, g, s), specimen.Parsed(t, g, r))
			told += map[bool]string{true: "1", false: "0"}[leaves]
		}
		if told != want[i] {
			t.Errorf("%s: %s, not %s", s, told, want[i])
		}
	}
	// By another measure, the man of the first one has less than both men of the second one.
	if p, q := specimen.Parsed(t, g, l[0]), specimen.Parsed(t, g, l[1]); !slice.Leaves(weights(3, 3), q, p) || slice.Leaves(weights(3, 3), p, q) {
		t.Error("weights 3, 3")
	}
}

// P12.1, P12.4: slices have the indices of positions with the same level, whether or not the list is sorted, also for positions that are there twice; for no positions, there is none.
func TestCut(t *testing.T) {
	g := row(t, "a", "go0 become1", "")
	const two, other, one, none, three = "A.../00/00/0/0", "..bb/00/00/0/1", "..../00/00/1/0", "..../00/00/0/0", "..../10/00/1/1"
	for _, c := range []struct {
		l    []string
		want string
	}{
		{nil, "[]"},
		{[]string{none}, "[[0]]"},
		{[]string{three}, "[[0]]"},
		{[]string{two, other}, "[[0 1]]"},
		{[]string{two, two, two}, "[[0 1 2]]"},
		{[]string{none, one, two, three}, "[[0] [1] [2] [3]]"},
		{[]string{three, two, one, none}, "[[3] [2] [1] [0]]"},
		{[]string{three, none}, "[[1] [0]]"},
		{[]string{other, three, two, one, other, three}, "[[3] [0 2 4] [1 5]]"},
		{[]string{three, none, three, none, three}, "[[1 3] [0 2 4]]"},
	} {
		var l []api.Pos
		for _, s := range c.l {
			l = append(l, specimen.Parsed(t, g, s))
		}
		if got := fmt.Sprint(slice.Cut(slice.Of(g), l)); got != c.want {
			t.Errorf("%q: %s, not %s", c.l, got, c.want)
		}
	}
	// With other weights, the two men have more than the one and the right.
	l := []api.Pos{specimen.Parsed(t, g, other), specimen.Parsed(t, g, three), specimen.Parsed(t, g, two)}
	if got := fmt.Sprint(slice.Cut(weights(6, 6), l)); got != "[[2] [1] [0]]" {
		t.Error(got)
	}
}

// P12.2, P12.3, P12.8: captures of men that are not kept, rights that are lost, and men that become what does not lead back to them, leave the slice; all else does not.
func TestMoves(t *testing.T) {
	for _, c := range []struct {
		keep, progs, p, q string
		want              bool
	}{
		{"", "go0", "A.../0/0/0/0", ".A../0/0/0/1", false},
		{"", "go0 go0 go1 slide0 slide1", "A.b./0/0/1/0", ".Ab./0/0/1/1", false},
		{"", "go0 push0", "Ac../0/0/0/0", ".Ac./0/0/0/1", false},
		// The man that is captured is kept, or is not.
		{"", "go0 take", "Aa../0/0/0/0", ".A../0/0/0/1", true},
		{"", "go0 take", "Ac../0/0/0/0", ".A../0/0/0/1", true},
		{"bc", "go0 take", "Aa../0/0/0/0", ".A../0/0/0/1", true},
		{"a", "go0 take", "Aa../0/0/0/0", ".A../1/0/0/1", false},
		{"ac", "go0 take", "Ac../7/0/0/0", ".A../701/0/0/1", false},
		{"a", "go0 take", "Ac../2/0/0/0", ".A../2/0/0/1", true},
		{"a", "go0 take", ".Aa./0/0/0/1", ".a../0/1/0/0", false},
		{"b", "go0 take", ".Aa./0/0/0/1", ".a../0/0/0/0", true},
		{"c", "slide0 take slide0 take", "Aab./0/0/0/0", "..A./0/0/0/1", true},
		{"a", "slide0 take slide0 take", "Aab./0/0/0/0", "..A./1/0/0/1", true},
		{"ab", "slide0 take slide0 take", "Aab./0/0/0/0", "..A./11/0/0/1", false},
		// The right is lost, or was not there.
		{"", "go0 lose0", "A.../0/0/1/0", ".A../0/0/0/1", true},
		{"", "go0 lose0", "A.../0/0/0/0", ".A../0/0/0/1", false},
		{"", "go0 need0", "A.../0/0/1/0", ".A../0/0/1/1", false},
		// From b and c nothing leads to others, and d and e lead to each other.
		{"", "go0 become1", "A.../0/0/0/0", ".B../0/0/0/1", true},
		{"", "go0 become2", "A.../0/0/0/0", ".C../0/0/0/1", true},
		{"", "go0 become3", ".a../0/0/0/1", "d.../0/0/0/0", true},
		{"", "go0 become0", "A.../0/0/0/0", ".A../0/0/0/1", false},
		{"", "go0", "B.../0/0/0/0", ".B../0/0/0/1", false},
		{"", "go0", "D.../0/0/0/0", ".E../0/0/0/1", false},
		{"", "go0", "E.../0/0/0/0", ".D../0/0/0/1", false},
		{"", "go0", "...e/0/0/0/1", "..d./0/0/0/0", false},
		// What is captured is kept, but the man becomes one with less.
		{"b", "go0 take become4", "Ab../0/0/0/0", ".E../01/0/0/1", true},
		// Drops.
		{"a", "go0", "A.../3/2/1/0", "A..A/2/2/1/1", false},
		{"a", "go0", "A.../3/2/1/1", "Aa../3/1/1/0", false},
	} {
		g := row(t, c.keep, c.progs, "go0, go0 become1", "", "go0 become4", "go0 become3")
		m, p, q := slice.Of(g), withHands(t, g, c.p), withHands(t, g, c.q)
		if !play.Legal(g, p, q) {
			t.Errorf("%s: %s is no move from %s", c.progs, c.q, c.p)
		}
		if got := slice.Leaves(m, p, q); got != c.want || slice.Leaves(m, q, p) {
			t.Errorf("%s: %s, then %s: %t", c.progs, c.p, c.q, got)
		}
	}
}

// withHands returns the position with the text s, in which 0 at the end of a hand may be left out.
func withHands(t *testing.T, g api.Game, s string) api.Pos {
	t.Helper()
	parts := strings.Split(s, "/")
	for side := range 2 {
		parts[1+side] += strings.Repeat("0", len(g.Kinds)-len(parts[1+side]))
	}
	return specimen.Parsed(t, g, strings.Join(parts, "/"))
}
