package game_test

import (
	"fmt"
	"math/rand/v2"
	"reflect"
	"slices"
	"strings"
	"testing"

	"skewer/api"
	"skewer/game"
)

// exampleText is the text of the chapter's example.
const exampleText = `board 2 1
dir 1 -1
turn 0
kind a
prog go0 empty
rights 0
blocked loss
endless draw
`

// example returns the game of the chapter's example.
func example() api.Game {
	return api.Game{
		Board:   api.Board{Cells: 2, Next: [][]int{{1, -1}}, Turn: []int{0}},
		Kinds:   []api.Kind{{Name: "a", Progs: []api.Prog{{{Op: api.Go}, {Op: api.Empty}}}}},
		Blocked: api.Loss, Endless: api.Draw,
	}
}

// P3.1: the examples of the chapter.
func TestExamples(t *testing.T) {
	if got := game.Print(example()); got != exampleText {
		t.Errorf("Print: %q", got)
	}
	if g := mustParse(t, exampleText); !same(g, example()) {
		t.Errorf("Parse: %v", g)
	}
	if got := game.Code(1, 1); got != 4 {
		t.Error("Code:", got)
	}
	if kind, side := game.Man(4); kind != 1 || side != 1 {
		t.Error("Man of 4:", kind, side)
	}
	if kind, side := game.Man(0); kind != -1 || side != -1 {
		t.Error("Man of 0:", kind, side)
	}
	if game.Find(example(), "a") != 0 || game.Find(example(), "b") != -1 {
		t.Error("Find")
	}
	g := example()
	for n, want := range []bool{true, true, false} {
		g.Clauses = []api.Clause{{If: api.Holds, Kind: 0, N: n, Then: 1}}
		if game.Valid(g) != want {
			t.Error("Valid with Holds on", n)
		}
	}
}

// mustParse returns the game with the text s, which has to be there.
func mustParse(t *testing.T, s string) api.Game {
	t.Helper()
	g, e := game.Parse(s)
	if e != api.OK {
		t.Fatalf("%q: %v", s, e)
	}
	return g
}

// refused checks that s is refused, and nothing is returned.
func refused(t *testing.T, s string) {
	t.Helper()
	if g, e := game.Parse(s); e != api.ErrForm || !reflect.DeepEqual(g, api.Game{}) {
		t.Fatalf("%.500q: %v, %v", s, g, e)
	}
}

// same reports whether two games are equal, where nil and empty slices are.
func same(g, h api.Game) bool {
	return fmt.Sprint(g) == fmt.Sprint(h)
}

// told returns the text of a valid game, as the chapter says it.
func told(g api.Game) string {
	results := map[int]string{1: "win", 2: "draw", 3: "loss"}
	ops := strings.Fields("- go slide empty enemy friend take push become need lose")
	row := func(l []int) string { return strings.Trim(fmt.Sprint(l), "[]") }
	s := fmt.Sprintf("board %d %d\n", g.Board.Cells, len(g.Board.Next))
	for _, next := range g.Board.Next {
		s += fmt.Sprintf("dir %s\n", row(next))
	}
	s += fmt.Sprintf("turn %s\n", row(g.Board.Turn))
	for _, k := range g.Kinds {
		s += "kind " + k.Name + map[bool]string{true: " keep"}[k.Keep] + "\n"
		for _, p := range k.Progs {
			s += "prog"
			for _, step := range p {
				s += " " + ops[step.Op]
				if step.Op < api.Empty || step.Op > api.Take {
					s += fmt.Sprint(step.N)
				}
			}
			s += "\n"
		}
	}
	s += fmt.Sprintf("rights %d\n%s", g.Rights, map[bool]string{true: "must\n"}[g.Must])
	for _, c := range g.Clauses {
		switch c.If {
		case 1:
			s += fmt.Sprintf("lacks %s %s\n", g.Kinds[c.Kind].Name, results[c.Then])
		case 2:
			s += fmt.Sprintf("holds %s %d %s\n", g.Kinds[c.Kind].Name, c.N, results[c.Then])
		case 3:
			s += fmt.Sprintf("few %d %s\n", c.N, results[c.Then])
		}
	}
	return s + fmt.Sprintf("blocked %s\nendless %s\n", results[g.Blocked], results[g.Endless])
}

// P3.1, P3.2: each valid game has its text, is the one that the text gives, and has this text alone.
func TestTexts(t *testing.T) {
	texts := map[string]string{}
	for g := range games() {
		s := game.Print(g)
		if s != told(g) {
			t.Fatalf("%v: %q", g, s)
		}
		if h := mustParse(t, s); !same(g, h) || !game.Valid(h) {
			t.Fatalf("%q gives %v, not %v", s, h, g)
		}
		if other, ok := texts[s]; ok && other != fmt.Sprint(g) {
			t.Fatalf("%q: %s and %v", s, other, g)
		}
		texts[s] = fmt.Sprint(g)
	}
	if len(texts) < 1000 {
		t.Error("too few texts:", len(texts))
	}
}

// P3.1: what is not valid has no text.
func TestNotPrinted(t *testing.T) {
	for g := range spoilt() {
		want := ""
		if game.Valid(g) {
			want = told(g)
		}
		if got := game.Print(g); got != want {
			t.Fatalf("%v: %q", g, got)
		}
	}
}

// P3.2: a text is refused, or is the one of the game that it gives, whatever byte or line is changed.
func TestChangedTexts(t *testing.T) {
	r := rand.New(rand.NewPCG(3, 4))
	read, not := 0, 0
	for g := range games() {
		s := game.Print(g)
		for range 8 {
			near := changed(r, s)
			h, e := game.Parse(near)
			if e != api.OK {
				refused(t, near)
				not++
				continue
			}
			if !game.Valid(h) || game.Print(h) != near || told(h) != near || (near == s) != same(g, h) {
				t.Fatalf("%q: %v", near, h)
			}
			read++
		}
	}
	if read < 1000 || not < 1000 {
		t.Error("too few texts:", read, not)
	}
}

// changed returns s with a byte or a word more, less or in place of another one, or with two lines in place of each other.
func changed(r *rand.Rand, s string) string {
	const bytes = "0123456789 \nabcdefghijklmnopqrstuvwxyz-+\t\r"
	b := bytes[r.IntN(len(bytes))]
	at := r.IntN(len(s))
	switch r.IntN(5) {
	case 0:
		return s[:at] + string(b) + s[at:]
	case 1:
		return s[:at] + s[at+1:]
	case 2:
		return s[:at] + string(b) + s[at+1:]
	case 3:
		l := strings.SplitAfter(s, " ")
		l[r.IntN(len(l))] = l[r.IntN(len(l))]
		return strings.Join(l, "")
	}
	l := strings.SplitAfter(s, "\n")
	i, j := r.IntN(len(l)), r.IntN(len(l))
	l[i], l[j] = l[j], l[i]
	return strings.Join(l, "")
}

// P3.7: a text without its last line, or whose lines end in another way.
func TestEnds(t *testing.T) {
	for g := range games() {
		s := game.Print(g)
		l := strings.SplitAfter(s, "\n")
		for _, near := range []string{
			strings.Join(l[:len(l)-2], ""), s[:len(s)-1], s + "\n", s + " ", "\n" + s, " " + s, s + s, s + "must\n", s + "endless", s[:len(s)-1] + " \n", s + "\x00",
			strings.ReplaceAll(s, "\n", "\r\n"), strings.ReplaceAll(s, "\n", "\n\n"), strings.ReplaceAll(s, "\n", " "), strings.ReplaceAll(s, "\n", " \n"), strings.ReplaceAll(s, "\n", "\n "),
			strings.ReplaceAll(s, " ", "  "), strings.ReplaceAll(s, " ", "\t"), strings.ReplaceAll(s, " ", "\u00a0"), strings.ToUpper(s), strings.ReplaceAll(s, " ", ""),
		} {
			refused(t, near)
		}
	}
}

// P3.7: with another space, at any place, a text is refused.
func TestSpaces(t *testing.T) {
	for _, s := range []string{exampleText, game.Print(long(t))} {
		for i := range len(s) + 1 {
			refused(t, s[:i]+" "+s[i:])
			if i < len(s) && (s[i] == ' ' || s[i] == '\n') {
				refused(t, s[:i]+s[i+1:])
			}
		}
	}
}

// long returns a game with each kind of lines.
func long(t *testing.T) api.Game {
	t.Helper()
	return mustParse(t, "board 3 2\ndir 1 2 -1\ndir -1 0 1\nturn 1 0\nkind king\nprog go0 empty\nprog slide1 enemy take become1\nkind keep keep\nprog need3 go1 lose2 push0\nkind win\nrights 4\nmust\nlacks king loss\nholds keep 2 win\nfew 64 draw\nlacks win draw\nblocked loss\nendless win\n")
}

// P3.7: lines that are there twice, or not at all, are refused, unless the text is the one of another game.
func TestLines(t *testing.T) {
	left := 300
	for g := range games() {
		if left--; left < 0 {
			return
		}
		lines := strings.SplitAfter(strings.TrimSuffix(game.Print(g), "\n"), "\n")
		lines[len(lines)-1] += "\n"
		kind := -1
		for i, line := range lines {
			twice := strings.Join(slices.Insert(slices.Clone(lines), i, line), "")
			without := strings.Join(slices.Delete(slices.Clone(lines), i, i+1), "")
			switch strings.Fields(line)[0] {
			case "board", "dir", "turn", "rights", "blocked", "endless":
				refused(t, twice)
				refused(t, without)
			case "must":
				refused(t, twice)
				accepted(t, without, game.Valid(g))
			case "kind":
				kind++
				refused(t, twice)
			case "prog":
				accepted(t, twice, len(g.Kinds[kind].Progs) < api.MaxProgs)
				accepted(t, without, true)
			default:
				accepted(t, twice, len(g.Clauses) < api.MaxClauses)
				accepted(t, without, true)
			}
		}
	}
}

// accepted checks that s is the text of a game, or, if not want, refused.
func accepted(t *testing.T, s string, want bool) {
	t.Helper()
	if !want {
		refused(t, s)
		return
	}
	if g := mustParse(t, s); game.Print(g) != s {
		t.Fatalf("%q: %v", s, g)
	}
}

// P3.2, P3.7: lines in another order, where it is not the one of another game, as with programs of other kinds, or clauses.
func TestOrder(t *testing.T) {
	g := long(t)
	lines := strings.SplitAfter(game.Print(g), "\n")
	lines = lines[:len(lines)-1]
	group := func(line string) string {
		switch word := strings.Fields(line)[0]; word {
		case "lacks", "holds", "few":
			return "clause"
		case "kind", "prog":
			return "kind"
		default:
			return word
		}
	}
	for i := range lines {
		for j := range i {
			l := slices.Clone(lines)
			l[i], l[j] = l[j], l[i]
			if group(l[i]) != group(l[j]) {
				refused(t, strings.Join(l, ""))
			}
		}
	}
}

// P3.1: numbers, names and words that are written in another way, or are not there.
func TestNoTexts(t *testing.T) {
	s := game.Print(long(t))
	for _, c := range [][2]string{
		{"board 3 2", "board"}, {"board 3 2", "board 3"}, {"board 3 2", "board 3 2 1"}, {"board 3 2", "board 3 3"}, {"board 3 2", "board 3 1"}, {"board 3 2", "board 03 2"}, {"board 3 2", "board +3 2"}, {"board 3 2", "board 4 2"}, {"board 3 2", "board 2 2"}, {"board 3 2", "board 3 x"}, {"board 3 2", "Board 3 2"}, {"board 3 2", "board 2 3"},
		{"dir 1 2 -1", "dir"}, {"dir 1 2 -1", "dir 1 2"}, {"dir 1 2 -1", "dir 1 2 -1 0"}, {"dir 1 2 -1", "dir 1 2 -2"}, {"dir 1 2 -1", "dir 1 3 -1"}, {"dir 1 2 -1", "dir 1 2 -01"}, {"dir 1 2 -1", "dir 1 2 - 1"}, {"dir -1 0 1", "dir -1 -0 1"}, {"dir -1 0 1", "dir -1 00 1"}, {"dir -1 0 1", "dir -1 x 1"}, {"dir -1 0 1", "dir -1 +0 1"}, {"dir -1 0 1", "dir -1 0x0 1"}, {"dir -1 0 1", "dir -1 0_0 1"}, {"dir -1 0 1", "dir -1 0.0 1"}, {"dir -1 0 1", "dir -1 \u0660 1"}, {"dir -1 0 1", "dir -1 18446744073709551616 1"}, {"dir -1 0 1", "dir -1 4294967296 1"},
		{"turn 1 0", "turn"}, {"turn 1 0", "turn 1"}, {"turn 1 0", "turn 0 0"}, {"turn 1 0", "turn 1 0 0"}, {"turn 1 0", "turn 1 2"}, {"turn 1 0", "turn -1 0"}, {"turn 1 0\n", ""},
		{"kind king", "kind"}, {"kind king", "kind "}, {"kind king", "kind king no"}, {"kind king", "kind king Keep"}, {"kind king", "kind king keep keep"}, {"kind keep keep", "kind keep keeps"}, {"kind king", "kind King"}, {"kind king", "kind kingkings"}, {"kind king", "kind k1"}, {"kind king", "kind other"}, {"kind king", "kind win"}, {"kind king\n", ""}, {"kind win\n", ""},
		{"prog go0 empty", "prog"}, {"prog go0 empty", "prog "}, {"prog go0 empty", "prog go2 empty"}, {"prog go0 empty", "prog go00 empty"}, {"prog go0 empty", "prog go 0 empty"}, {"prog go0 empty", "go0 empty"}, {"prog go0 empty", "prog go0  empty"}, {"prog go0 empty", "prog prog go0 empty"}, {"become1", "become3"}, {"take", "take take take"}, {"need3", "need4"}, {"turn 1 0\n", "turn 1 0\nprog go0\n"},
		{"rights 4", "rights"}, {"rights 4", "rights 5"}, {"rights 4", "rights 3"}, {"rights 4", "rights 04"}, {"rights 4", "rights -1"}, {"rights 4", "rights four"}, {"rights 4", "rights 4 4"}, {"rights 4", "rights 4\nrights 4"},
		{"must", "must must"}, {"must", "must 1"}, {"must", "must true"}, {"must", "Must"}, {"must", "must\nmust"}, {"must", ""}, {"must", "keep"},
		{"lacks king loss", "lacks king"}, {"lacks king loss", "lacks loss"}, {"lacks king loss", "lacks"}, {"lacks king loss", "lacks king 0 loss"}, {"lacks king loss", "lacks rook loss"}, {"lacks king loss", "lacks king lost"}, {"lacks king loss", "lacks king 3"}, {"lacks king loss", "lacks 0 loss"}, {"lacks king loss", "lacks king Loss"}, {"lacks king loss", "lacks king loss loss"},
		{"holds keep 2 win", "holds keep win"}, {"holds keep 2 win", "holds keep 3 win"}, {"holds keep 2 win", "holds keep 02 win"}, {"holds keep 2 win", "holds keep -1 win"}, {"holds keep 2 win", "holds 2 win"}, {"holds keep 2 win", "holds keep 2"}, {"holds keep 2 win", "holds rook 2 win"}, {"holds keep 2 win", "holds 2 keep win"}, {"holds keep 2 win", "holds keep 2 win win"},
		{"few 64 draw", "few 65 draw"}, {"few 64 draw", "few -1 draw"}, {"few 64 draw", "few draw"}, {"few 64 draw", "few 064 draw"}, {"few 64 draw", "few king 64 draw"}, {"few 64 draw", "few 64"}, {"few 64 draw", "few 0 64 draw"}, {"few 64 draw", "many 64 draw"},
		{"blocked loss", "blocked"}, {"blocked loss", "blocked 3"}, {"blocked loss", "blocked lost"}, {"blocked loss", "blocked loss loss"}, {"blocked loss", "blocked "}, {"endless win", "endless"}, {"endless win", "endless wins"}, {"endless win", "endless 1"}, {"endless win\n", ""}, {"blocked loss\n", ""}, {"blocked loss\nendless win\n", "endless win\nblocked loss\n"},
	} {
		near := strings.Replace(s, c[0], c[1], 1)
		if near == s {
			t.Fatal("nothing is changed:", c)
		}
		refused(t, near)
	}
	for _, near := range []string{"", " ", "\n", "\n\n", "board", "board 1 1\n", "must\n", "prog go0\n", "lacks a loss\n", "\x00", "\xff", "kind a\n"} {
		refused(t, near)
	}
}

// P3.1: other results, names and numbers are read as they are.
func TestOtherTexts(t *testing.T) {
	s := game.Print(long(t))
	for _, c := range []struct {
		old, new string
		right    func(g api.Game) bool
	}{
		{"must\n", "", func(g api.Game) bool { return !g.Must }},
		{"keep keep", "keep", func(g api.Game) bool { return !g.Kinds[1].Keep && g.Kinds[1].Name == "keep" }},
		{"kind king", "kind king keep", func(g api.Game) bool { return g.Kinds[0].Keep }},
		{"dir 1 2 -1", "dir 0 -1 2", func(g api.Game) bool { return slices.Equal(g.Board.Next[0], []int{0, -1, 2}) }},
		{"turn 1 0", "turn 0 1", func(g api.Game) bool { return slices.Equal(g.Board.Turn, []int{0, 1}) }},
		{"king loss", "king win", func(g api.Game) bool { return g.Clauses[0] == api.Clause{If: api.Lacks, Then: api.Win} }},
		{"king loss", "win draw", func(g api.Game) bool { return g.Clauses[0] == api.Clause{If: api.Lacks, Kind: 2, Then: api.Draw} }},
		{"keep 2 win", "king 0 loss", func(g api.Game) bool { return g.Clauses[1] == api.Clause{If: api.Holds, Then: api.Loss} }},
		{"few 64 draw", "few 0 win", func(g api.Game) bool { return g.Clauses[2] == api.Clause{If: api.Few, Then: api.Win} }},
		{"blocked loss", "blocked win", func(g api.Game) bool { return g.Blocked == api.Win }},
		{"blocked loss", "blocked draw", func(g api.Game) bool { return g.Blocked == api.Draw }},
		{"endless win", "endless draw", func(g api.Game) bool { return g.Endless == api.Draw }},
		{"endless win", "endless loss", func(g api.Game) bool { return g.Endless == api.Loss }},
		{"go0 empty", "take take friend", func(g api.Game) bool { return len(g.Kinds[0].Progs[0]) == 3 }},
	} {
		near := strings.Replace(s, c.old, c.new, 1)
		if g := mustParse(t, near); !c.right(g) || game.Print(g) != near {
			t.Errorf("%q for %q: %v", c.new, c.old, g)
		}
	}
}

// P3.1, P3.5: the text of the largest game, and texts that are too long.
func TestLongTexts(t *testing.T) {
	s := game.Print(largest(0))
	if g := mustParse(t, s); !same(g, largest(0)) {
		t.Errorf("%q: %v", s, g)
	}
	for before, line := range map[string]string{"turn": "dir " + strings.Repeat("63 ", 63) + "63\n", "rights": "kind z\n", "prog": "prog empty\n", "blocked": "few 1 win\n", "must": "must\n", "board": "\n", "holds": "rights 4\n", "kind": "turn 7 6 5 4 3 2 1 0\n", "endless": "endless win\n"} {
		at := strings.Index(s, before)
		refused(t, s[:at]+line+s[at:])
		refused(t, s[:at]+strings.Repeat(line, 1<<17)+s[at:])
		refused(t, s+strings.Repeat(line, 1<<17))
	}
	refused(t, strings.Replace(s, " 63", " 63 63", 1))
	refused(t, strings.Replace(s, " 63", strings.Repeat(" 63", 1<<18), 1))
	for _, piece := range []string{" ", "\n", "0", "dir", "dir ", "dir 0\n", "dir 0 ", "board 1 1\n", "kind a\n", "kind ", "kind a\nprog go0\n", "must\n", "turn 0\n", "lacks a win\n"} {
		refused(t, strings.Repeat(piece, 1<<18))
	}
}

// P2: a result is memory of its own: what is done with it changes neither other results nor other parts of it.
func TestMemory(t *testing.T) {
	s := game.Print(largest(1))
	g := mustParse(t, s)
	for _, row := range append(g.Board.Next, g.Board.Turn) {
		if slices.Contains(row, 99) {
			t.Fatal("shared rows")
		}
		for i := range row {
			row[i] = 99
		}
		_ = append(row, 99)
	}
	for _, k := range g.Kinds {
		for _, p := range k.Progs {
			if p[0].Op != api.Push {
				t.Fatal("shared programs")
			}
			clear(p)
			_ = append(p, api.Step{Op: 99})
		}
		for i := range k.Progs {
			k.Progs[i] = nil
		}
	}
	clear(g.Kinds)
	clear(g.Clauses)
	if h := mustParse(t, s); !same(h, largest(1)) {
		t.Fatal("shared memory:", h)
	}
}
