package prog_test

import (
	"math"
	"math/rand/v2"
	"slices"
	"strings"
	"testing"

	"skewer/api"
	"skewer/prog"
)

// mustParse returns the program with the text s, which has to be there.
func mustParse(t *testing.T, s string) api.Prog {
	t.Helper()
	p, e := prog.Parse(s)
	if e != api.OK {
		t.Fatalf("%q: %v", s, e)
	}
	return p
}

// P2.1: the examples of the chapter, and a step of each kind.
func TestExamples(t *testing.T) {
	for s, p := range map[string]api.Prog{
		"go0 empty":                 {{Op: api.Go, N: 0}, {Op: api.Empty}},
		"slide7 enemy take become5": {{Op: api.Slide, N: 7}, {Op: api.Enemy}, {Op: api.Take}, {Op: api.Become, N: 5}},
		"need3 go1 push1 lose3":     {{Op: api.Need, N: 3}, {Op: api.Go, N: 1}, {Op: api.Push, N: 1}, {Op: api.Lose, N: 3}},
		"go7":                       {{Op: 1, N: 7}},
		"slide2":                    {{Op: 2, N: 2}},
		"empty":                     {{Op: 3}},
		"enemy":                     {{Op: 4}},
		"friend":                    {{Op: 5}},
		"take":                      {{Op: 6}},
		"push4":                     {{Op: 7, N: 4}},
		"become0":                   {{Op: 8, N: 0}},
		"need1":                     {{Op: 9, N: 1}},
		"lose2":                     {{Op: 10, N: 2}},
	} {
		if got := prog.Print(p); got != s {
			t.Errorf("Print of %q: %q", s, got)
		}
		if got := mustParse(t, s); !slices.Equal(got, p) {
			t.Errorf("Parse of %q: %v", s, got)
		}
	}
}

// P2.1: texts of no program.
func TestNoTexts(t *testing.T) {
	for _, s := range []string{
		// Those of the chapter.
		"go", "go8", "go00", "go0  empty", "empty0", "take take take", "",
		// Spaces.
		" ", "  ", " go0", "go0 ", "go0 empty ", "go0\tempty", "go0\nempty", "go0\n", "go 0", "go0,empty", "go0\u00a0empty", "go0empty",
		// Words.
		"walk0", "walk", "g0", "goo0", "Go0", "GO0", "gO0", "0", "7", "00", "0go", "\x00", "go0\x00", "em", "emptyempty", "become", "need", "lose", "push", "slide",
		// Numbers.
		"go-1", "go+1", "go-0", "go01", "go10", "go1.0", "go1e0", "go0x1", "go1_0", "go\u0661", "go\uff11", "go9", "slide8", "push8", "become6", "need4", "lose4", "take1", "take00", "friend0", "enemy9",
		"go9223372036854775807", "go9223372036854775808", "go18446744073709551616", "go4294967296",
		// Counts.
		"push0 push1", "push0 push0", "become0 become1", "take go0 take go1 take",
		"go0 go0 go0 go0 go0 go0 go0 go0 go0", "go0 go0 go0 go0 go0 go0 go0 go0 ", "go0 go0 go0 go0 go0 go0 go0 go0 go0 go0 go0",
	} {
		if p, e := prog.Parse(s); e != api.ErrProg || len(p) > 0 {
			t.Errorf("%q: %v, %v", s, p, e)
		}
	}
}

// P2.1, P2.5: texts that are too long.
func TestLongTexts(t *testing.T) {
	for _, s := range []string{strings.Repeat(" ", 1<<20), strings.Repeat("go0 ", 1<<20), strings.Repeat("0", 1<<20), "go" + strings.Repeat("0", 1<<20), "go0 " + strings.Repeat("empty", 1<<20)} {
		if p, e := prog.Parse(s); e != api.ErrProg || len(p) > 0 {
			t.Errorf("%d bytes: %v, %v", len(s), p, e)
		}
	}
}

// P2.1: what is not valid for the greatest numbers has no text.
func TestNotPrinted(t *testing.T) {
	for p := range programs() {
		want := prog.Valid(p, api.MaxDirs, api.MaxKinds, api.MaxRights)
		if got := prog.Print(p); (got != "") != want {
			t.Fatalf("%v: %q", p, got)
		}
	}
	for _, p := range []api.Prog{
		nil, {}, {{}}, {{Op: api.Go, N: api.MaxDirs}}, {{Op: api.Become, N: api.MaxKinds}}, {{Op: api.Lose, N: api.MaxRights}}, {{Op: api.Take, N: 1}},
		{{Op: api.Go, N: -1}}, {{Op: api.Go, N: 10}}, {{Op: 11}}, {{Op: -1}}, {{Op: math.MinInt, N: math.MinInt}}, {{Op: math.MaxInt, N: math.MaxInt}},
	} {
		if got := prog.Print(p); got != "" {
			t.Errorf("%v: %q", p, got)
		}
	}
}

// P2.2: each program is the one that its text gives, and each text the one of the program that it gives.
func TestTexts(t *testing.T) {
	r := rand.New(rand.NewPCG(3, 4))
	texts := map[string]api.Prog{}
	for p := range programs() {
		s := prog.Print(p)
		if s == "" {
			continue
		}
		if got := mustParse(t, s); !slices.Equal(got, p) {
			t.Fatalf("%v: %q gives %v", p, s, got)
		}
		if q, ok := texts[s]; ok && !slices.Equal(p, q) {
			t.Fatalf("%q: %v and %v", s, p, q)
		}
		texts[s] = p
		near := changed(r, s)
		if q, e := prog.Parse(near); e == api.OK && prog.Print(q) != near || e != api.OK && (e != api.ErrProg || len(q) > 0) {
			t.Fatalf("%q: %v, %v", near, q, e)
		}
	}
	if len(texts) < 1000 {
		t.Error("too few texts:", len(texts))
	}
}

// changed returns s with a byte more, less, or in place of another one.
func changed(r *rand.Rand, s string) string {
	const bytes = "0123456789 abcdefghijklmnopqrstuvwxyz+-_\t"
	b := bytes[r.IntN(len(bytes))]
	at := r.IntN(len(s))
	switch r.IntN(3) {
	case 0:
		return s[:at] + string(b) + s[at:]
	case 1:
		return s[:at] + s[at+1:]
	}
	return s[:at] + string(b) + s[at+1:]
}

// P2.3: turning can be taken back; it turns the directions, and changes nothing else.
func TestTurned(t *testing.T) {
	r := rand.New(rand.NewPCG(5, 6))
	for p := range programs() {
		if dirs := prog.Dirs(p); len(dirs) > 0 && (dirs[0] < 0 || dirs[len(dirs)-1] >= api.MaxDirs) {
			continue
		}
		to := r.Perm(api.MaxDirs)
		back := make([]int, len(to))
		for d, n := range to {
			back[n] = d
		}
		q := prog.Turned(p, to)
		if got := prog.Turned(q, back); !slices.Equal(got, p) {
			t.Fatalf("%v by %v and back: %v", p, to, got)
		}
		if len(q) != len(p) {
			t.Fatalf("%v by %v: %v", p, to, q)
		}
		for i, s := range p {
			if named(s.Op) == directions {
				s.N = to[s.N]
			}
			if q[i] != s {
				t.Fatalf("%v by %v: %v", p, to, q)
			}
		}
		if prog.Valid(q, 8, 6, 4) != prog.Valid(p, 8, 6, 4) || prog.Takes(q) != prog.Takes(p) {
			t.Fatalf("%v by %v: %v", p, to, q)
		}
	}
}

// P2.3: lists that are no permutations, and those that are just long enough.
func TestTurnedByAny(t *testing.T) {
	p := mustParse(t, "slide2 go0 push2 become1 need2 enemy")
	if got := prog.Print(prog.Turned(p, []int{5, 1, 5})); got != "slide5 go5 push5 become1 need2 enemy" {
		t.Errorf("%q", got)
	}
	if got := prog.Turned(p, []int{-7, 0, 99}); got[0].N != 99 || got[1].N != -7 || got[2].N != 99 {
		t.Errorf("%v", got)
	}
	for _, s := range []string{"take", "become3 need1 lose2 friend"} {
		if got := prog.Print(prog.Turned(mustParse(t, s), nil)); got != s {
			t.Errorf("%q: %q", s, got)
		}
	}
	if got := prog.Turned(nil, []int{1, 0}); len(got) > 0 {
		t.Errorf("%v", got)
	}
}

// P2.1: a program takes if it has a Take, valid or not.
func TestTakes(t *testing.T) {
	for p := range programs() {
		if got := prog.Takes(p); got != slices.Contains(ops(p), api.Take) {
			t.Fatalf("%v: %v", p, got)
		}
	}
	if !prog.Takes(api.Prog{{Op: api.Go, N: -5}, {Op: api.Take, N: 9}}) || prog.Takes(nil) {
		t.Error("programs that are not valid")
	}
}

// ops returns the Ops of p.
func ops(p api.Prog) []int {
	var l []int
	for _, s := range p {
		l = append(l, s.Op)
	}
	return l
}

// P2.7: the directions of a program are those that its steps name, once, in increasing order.
func TestDirs(t *testing.T) {
	for p := range programs() {
		dirs := prog.Dirs(p)
		for i := range dirs {
			if i > 0 && dirs[i-1] >= dirs[i] {
				t.Fatalf("%v: %v", p, dirs)
			}
			if !slices.ContainsFunc(p, func(s api.Step) bool { return named(s.Op) == directions && s.N == dirs[i] }) {
				t.Fatalf("%v: %v", p, dirs)
			}
		}
		for _, s := range p {
			if named(s.Op) == directions && !slices.Contains(dirs, s.N) {
				t.Fatalf("%v: %v", p, dirs)
			}
		}
	}
	for _, c := range []struct {
		p    api.Prog
		want []int
	}{
		{mustParse(t, "push7 slide3 go7 go1 slide3 become2 need0 empty"), []int{1, 3, 7}},
		{mustParse(t, "become2 need0 lose1 enemy friend"), nil},
		{nil, nil},
		{api.Prog{{Op: api.Go, N: math.MaxInt}, {Op: api.Push, N: -1}, {Op: api.Slide, N: math.MinInt}, {Op: 0, N: 3}, {Op: 11, N: 4}}, []int{math.MinInt, -1, math.MaxInt}},
	} {
		if got := prog.Dirs(c.p); !slices.Equal(got, c.want) {
			t.Errorf("%v: %v", c.p, got)
		}
	}
}
