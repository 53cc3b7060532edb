package pos_test

import (
	"fmt"
	"math"
	"math/rand/v2"
	"reflect"
	"slices"
	"strings"
	"testing"

	"skewer/api"
	"skewer/game"
	"skewer/pos"
	"skewer/specimen"
)

// refused checks that s is refused, and nothing is returned.
func refused(t *testing.T, g api.Game, s string) {
	t.Helper()
	if p, e := pos.Parse(g, s); e != api.ErrForm || !reflect.DeepEqual(p, api.Pos{}) {
		t.Errorf("%.200q: %v, %v", s, p, e)
	}
}

// textOf returns the text of a valid position, as the chapter tells it.
func textOf(p api.Pos) string {
	s := ""
	for _, content := range p.At {
		kind, side := game.Man(content)
		switch side {
		case -1:
			s += "."
		case 0:
			s += string(rune('A' + kind))
		case 1:
			s += string(rune('a' + kind))
		}
	}
	row := func(l []int) string { return strings.ReplaceAll(strings.Trim(fmt.Sprint(l), "[]"), " ", "") }
	return fmt.Sprintf("%s/%s/%s/%d/%d", s, row(p.Hand[0]), row(p.Hand[1]), p.Rights, p.Side)
}

// P4.1, P4.7: each valid position has its text, is the one that the text gives, and no other position has this text.
func TestTexts(t *testing.T) {
	for g, p := range valid() {
		s := pos.Print(g, p)
		if s != textOf(p) {
			t.Fatalf("%v: %q", p, s)
		}
		q, e := pos.Parse(g, s)
		if e != api.OK || !same(p, q) || !pos.Valid(g, q) {
			t.Fatalf("%v: %q gives %v, %v", p, s, q, e)
		}
	}
}

// P4.7: a text is refused, or is the one of the position that it gives, whatever sign is changed.
func TestChangedTexts(t *testing.T) {
	r := rand.New(rand.NewPCG(17, 18))
	read, not := 0, 0
	for g, p := range valid() {
		s := pos.Print(g, p)
		for range 8 {
			other := changed(r, s)
			q, e := pos.Parse(g, other)
			if e != api.OK {
				refused(t, g, other)
				not++
				continue
			}
			if !pos.Valid(g, q) || pos.Print(g, q) != other || textOf(q) != other || (other == s) != same(p, q) {
				t.Fatalf("%q: %v", other, q)
			}
			read++
		}
	}
	if read < 1000 || not < 1000 {
		t.Error("too few texts:", read, not)
	}
}

// changed returns s with a sign more, less, or in place of another one.
func changed(r *rand.Rand, s string) string {
	const signs = "0123456789./AaBbCcDdEeFfGg+- \n@`\xff\x00"
	b := string(signs[r.IntN(len(signs))])
	at := r.IntN(len(s))
	switch r.IntN(5) {
	case 0:
		return s[:at] + b + s[at:]
	case 1:
		return s[:at] + s[at+1:]
	}
	return s[:at] + b + s[at+1:]
}

// P4.7, P4.8: texts of no position.
func TestNoTexts(t *testing.T) {
	g := specimen.Still(3, 4, false, true)
	if _, e := pos.Parse(g, ".aB/08/00/15/1"); e != api.OK {
		t.Fatal(e)
	}
	for _, s := range []string{
		// Parts.
		"", "/", "////", "/////", ".aB", ".aB/08/00/15", ".aB/08/00/15/", ".aB/08/00/15/1/", "/.aB/08/00/15/1", ".aB/08/00/15/1/0", ".aB//08/00/15/1", ".aB/0800/15/1", ".aB/08/0015/1", ".aB/08/00/151", "/08/00/15/1", ".aB//00/15/1", ".aB/08//15/1", ".aB/08/00//1", ".aB|08|00|15|1", ".aB,08,00,15,1",
		// Cells.
		".a/08/00/15/1", ".aB./08/00/15/1", ".aC/08/00/15/1", ".ac/08/00/15/1", ".aG/08/00/15/1", ".aZ/08/00/15/1", " aB/08/00/15/1", "-aB/08/00/15/1", "0aB/08/00/15/1", ".\xc3\xa1/08/00/15/1", ".a\xc1/08/00/15/1", ".a\xff/08/00/15/1", ".a\u0412/08/00/15/1", ".a\u0391/08/00/15/1", ".a\uff22/08/00/15/1", ".a\ufffd/08/00/15/1", ".a\u0392B/08/00/15/1", ".a@/08/00/15/1", ".a`/08/00/15/1", ".a\x00/08/00/15/1",
		// Hands.
		".aB/18/00/15/1", ".aB/08/10/15/1", ".aB/09/00/15/1", ".aB/08/09/15/1", ".aB/8/00/15/1", ".aB/08/0/15/1", ".aB/008/00/15/1", ".aB/08/000/15/1", ".aB/0:/00/15/1", ".aB/0//00/15/1", ".aB/0-1/00/15/1", ".aB/+8/00/15/1", ".aB/0 8/00/15/1", ".aB/0A/00/15/1", ".aB/0./00/15/1", ".aB/0\u0668/00/15/1", ".aB/0\uff18/00/15/1", ".aB/0\xff/00/15/1",
		// Rights.
		".aB/08/00/16/1", ".aB/08/00/015/1", ".aB/08/00/00/1", ".aB/08/00/+15/1", ".aB/08/00/-1/1", ".aB/08/00/-0/1", ".aB/08/00/ 15/1", ".aB/08/00/15 /1", ".aB/08/00/0x5/1", ".aB/08/00/1_5/1", ".aB/08/00/f/1", ".aB/08/00/1.5/1", ".aB/08/00/1e1/1", ".aB/08/00/\u0661/1", ".aB/08/00/9223372036854775807/1", ".aB/08/00/9223372036854775808/1", ".aB/08/00/18446744073709551616/1", ".aB/08/00/4294967296/1",
		// Sides.
		".aB/08/00/15/2", ".aB/08/00/15/-1", ".aB/08/00/15/01", ".aB/08/00/15/00", ".aB/08/00/15/10", ".aB/08/00/15/+1", ".aB/08/00/15/-0", ".aB/08/00/15/a", ".aB/08/00/15/A", ".aB/08/00/15/.", ".aB/08/00/15/1 ", ".aB/08/00/15/1\n", ".aB/08/00/15/ 1", ".aB/08/00/15/\uff11", " .aB/08/00/15/1", ".aB/08/00/15/1\x00", ".aB/08/00/15/18446744073709551617",
	} {
		refused(t, g, s)
	}
}

// P4.7: a text belongs to the positions of the games that have its numbers of cells, kinds and rights.
func TestTextsOfOthers(t *testing.T) {
	const s = "aA./0/0/2/1"
	for _, c := range []struct {
		g    api.Game
		want api.Errno
	}{
		{specimen.Still(3, 2, false), api.OK}, {specimen.Still(3, 2, true), api.OK}, {specimen.Still(3, 4, false), api.OK},
		{specimen.Still(2, 2, false), api.ErrForm}, {specimen.Still(4, 2, false), api.ErrForm}, {specimen.Still(3, 2, false, false), api.ErrForm}, {specimen.Still(3, 1, false), api.ErrForm}, {specimen.Still(3, 0, false), api.ErrForm},
	} {
		if _, e := pos.Parse(c.g, s); e != c.want {
			t.Errorf("%v: %v", c.g, e)
		}
	}
}

// P4.7: texts at their greatest length, and beyond.
func TestLongTexts(t *testing.T) {
	g, p := largest()
	want := strings.Repeat("f", 64) + "/888888/888888/15/1"
	if got := pos.Print(g, p); got != want {
		t.Errorf("%q", got)
	}
	if q, e := pos.Parse(g, want); e != api.OK || !same(p, q) {
		t.Errorf("%v, %v", q, e)
	}
	for _, s := range []string{"f" + want, want + "1", want + "/", strings.Repeat("/", 1<<20), strings.Repeat("f", 1<<20), strings.Repeat("f", 1<<20) + "/888888/888888/15/1", strings.Repeat("f", 64) + "/888888/888888/" + strings.Repeat("0", 1<<20) + "15/1", strings.Repeat("f", 64) + "/888888/888888/15/" + strings.Repeat("1", 1<<20)} {
		refused(t, g, s)
	}
}

// P4.8: a position is valid exactly if each of its numbers is in the range that the chapter says, up to the greatest games.
func TestValid(t *testing.T) {
	r := rand.New(rand.NewPCG(19, 20))
	yes, no := 0, 0
	for g, p := range valid() {
		if !game.Valid(g) || !pos.Valid(g, p) {
			t.Fatalf("%v: %v", g, p)
		}
		for range 10 {
			q := near(r, p)
			got := pos.Valid(g, q)
			if got != rightFor(g, q) {
				t.Fatalf("%v: %v, %v", g, q, got)
			}
			if got {
				yes++
			} else {
				no++
			}
		}
	}
	if yes < 1000 || no < 1000 {
		t.Error("too few positions:", yes, no)
	}
}

// rightFor reports whether p is valid for g, as the chapter tells it.
func rightFor(g api.Game, p api.Pos) bool {
	kinds := len(g.Kinds)
	if len(p.At) != g.Board.Cells || len(p.Hand[0]) != kinds || len(p.Hand[1]) != kinds {
		return false
	}
	for _, content := range p.At {
		if content < 0 || content > 2*kinds {
			return false
		}
	}
	for i := range kinds {
		for _, n := range []int{p.Hand[0][i], p.Hand[1][i]} {
			if n < 0 || n > 8 || n > 0 && !g.Kinds[i].Keep {
				return false
			}
		}
	}
	return p.Rights >= 0 && p.Rights < []int{1, 2, 4, 8, 16}[g.Rights] && (p.Side == 0 || p.Side == 1)
}

// P4.8: numbers of each place, up to their limits and beyond.
func TestLimits(t *testing.T) {
	for _, n := range slices.Concat(edges, []int{5, math.MaxUint8}) {
		for rights := range api.MaxRights + 1 {
			g := specimen.Still(2, rights, false, true, false)
			check := func(what string, want bool, change func(*api.Pos)) {
				t.Helper()
				p := posOf(3, 0, 0)
				change(&p)
				if got := pos.Valid(g, p); got != want {
					t.Errorf("%s %d, %d rights: %v", what, n, rights, got)
				}
			}
			for i := range 2 {
				check("the content", n >= 0 && n <= 6, func(p *api.Pos) { p.At[i] = n })
				check("a man in the hand", n >= 0 && n <= 8, func(p *api.Pos) { p.Hand[i][1] = n })
				check("a man that is not kept", n == 0, func(p *api.Pos) { p.Hand[i][2*i] = n })
			}
			check("the rights", n >= 0 && n < []int{1, 2, 4, 8, 16}[rights], func(p *api.Pos) { p.Rights = n })
			check("the side", n == 0 || n == 1, func(p *api.Pos) { p.Side = n })
			if n >= 0 && n <= 300 {
				check("cells", n == 2, func(p *api.Pos) { p.At = make([]int, n) })
				check("kinds in the first hand", n == 3, func(p *api.Pos) { p.Hand[0] = make([]int, n) })
				check("kinds in the second hand", n == 3, func(p *api.Pos) { p.Hand[1] = make([]int, n) })
			}
		}
	}
	if pos.Valid(specimen.Still(1, 0, true), api.Pos{}) {
		t.Error("the zero value")
	}
}

// P2: a position that was read shares no memory within itself.
func TestReadMemory(t *testing.T) {
	g := specimen.Still(2, 0, true, true)
	p, e := pos.Parse(g, "A./11/11/0/0")
	if e != api.OK {
		t.Fatal(e)
	}
	p.At[0], p.Hand[0][0], p.Hand[1][1] = 7, 8, 9
	p.Hand[0] = append(p.Hand[0], 5)
	if !slices.Equal(p.At, []int{7, 0}) || !slices.Equal(p.Hand[0], []int{8, 1, 5}) || !slices.Equal(p.Hand[1], []int{1, 9}) {
		t.Error(p)
	}
}
