package check_test

import (
	"fmt"
	"math/rand/v2"
	"reflect"
	"slices"
	"testing"

	"skewer/api"
	"skewer/check"
	"skewer/gen"
	"skewer/solve"
	"skewer/specimen"
)

// all calls the functions and returns their results; those of Accept last, unless very many positions can be reached.
func all(g api.Game, d api.Derived, l []api.Pos, p api.Pos) []any {
	f, ok := check.Check(g, d, l)
	results := []any{f, ok, check.Derive(g)}
	if reached, _ := solve.All(g, p); len(reached) < 200 {
		d, f, e := check.Accept(g, p)
		results = append(results, e, f, d)
	}
	return results
}

// otherCode changes the code of a game, by which it may not fit any more.
func otherCode(r *rand.Rand, c *api.Code) {
	edge := func() int { return specimen.Edges()[r.IntN(len(specimen.Edges()))] }
	side := r.IntN(2)
	kinds := c.Paths[side]
	kind := r.IntN(len(kinds))
	cell := r.IntN(len(kinds[kind]))
	switch path := (api.Path{Acts: []api.Act{{Op: edge(), A: edge(), B: edge()}}, To: edge()}); r.IntN(6) {
	case 0:
		*c = api.Code{}
	case 1:
		c.Paths[side] = kinds[1:]
	case 2:
		kinds[kind] = kinds[kind][1:]
	case 3:
		path.Acts = nil
		kinds[kind][cell] = append(kinds[kind][cell], path)
	default:
		kinds[kind][cell] = append(kinds[kind][cell], path)
	}
}

// P1, P2: no game, position, or what may be derived makes a function panic, or is modified, and the results are the same ones each time; with an error, there is nothing else.
func TestAnything(t *testing.T) {
	right, wrong, accepted, refused := 0, 0, 0, 0
	for r, g := range games(700) {
		l := positions(r, g, 3)
		d := changed(r, g, l, r.IntN(12))
		if r.IntN(3) == 0 {
			otherCode(r, &d.Code)
		}
		if r.IntN(3) == 0 {
			d.Syms = append(d.Syms, api.Sym{Cells: specimen.Edges()[:r.IntN(9)], Dirs: specimen.Edges()})
		}
		if r.IntN(2) == 0 {
			g = specimen.OtherGame(r.IntN, g)
		}
		for i, p := range l {
			if r.IntN(3) == 0 {
				l[i] = specimen.OtherPos(r.IntN, p)
			}
		}
		before := fmt.Sprint(g, d, l)
		first := all(g, d, l, l[0])
		if fmt.Sprint(g, d, l) != before {
			t.Fatalf("%v, %v, %v, not %s", g, d, l, before)
		}
		if !reflect.DeepEqual(all(g, d, l, l[0]), first) {
			t.Fatalf("%v, %v, %v: other results", g, d, l)
		}
		if first[1].(bool) {
			right++
		} else {
			wrong++
		}
		switch {
		case len(first) == 3:
		case first[3] == api.OK:
			accepted++
		case fmt.Sprint(first[4:]...) != fmt.Sprint(api.Fault{}, api.Derived{}):
			t.Fatalf("%v, %v: %v", g, l[0], first)
		default:
			refused++
		}
	}
	if min(right, wrong, accepted, refused) < 100 {
		t.Errorf("only %d are right, %d wrong, %d accepted, and %d refused", right, wrong, accepted, refused)
	}
}

// P1: with games that are not valid, and have very much of everything, or nothing, and with anything that may be derived, the functions come to an end.
func TestGreatGames(t *testing.T) {
	great, p := specimen.Great()
	small := specimen.Row(t, 4, changers, "")
	q := specimen.Parsed(t, small, "A..a/00/00/1/0")
	far := api.Pos{At: specimen.Edges(), Hand: [2][]int{specimen.Edges(), specimen.Edges()}, Rights: -1, Side: -1}
	odd := check.Derive(small)
	for _, n := range specimen.Edges() {
		odd.Code.Paths[0][0][0] = append(odd.Code.Paths[0][0][0], api.Path{Acts: []api.Act{{Op: n, A: n, B: n}}, To: n})
		odd.Syms = append(odd.Syms, api.Sym{Cells: []int{0, 1, 2, n}, Dirs: []int{0, 1}})
	}
	odd.Measure.Kinds = specimen.Edges()
	for _, g := range []api.Game{great, small, {}} {
		for _, d := range []api.Derived{check.Derive(small), check.Derive(great), odd, {}} {
			for _, r := range []api.Pos{p, q, far, {}} {
				all(g, d, []api.Pos{r, q, {}, far, p, r}, r)
				d.Code = gen.Compile(g)
				all(g, d, []api.Pos{r, q, {}, far, p, r}, r)
				d.Syms = nil
				all(g, d, []api.Pos{r, q, {}, far, p, r}, r)
			}
		}
	}
}

// P1: as many positions as a list may have are checked, up to the last one.
func TestMost(t *testing.T) {
	g := specimen.Row(t, 3, "kind a\nprog go0 empty\nprog go1 empty\n", "")
	d := check.Derive(g)
	moving, over := specimen.Parsed(t, g, "A.a/0/0/0/0"), specimen.Parsed(t, g, "A../0/0/0/1")
	l := slices.Repeat([]api.Pos{moving, over}, api.MaxNodes/2)
	if f, ok := check.Check(g, d, l); !ok {
		t.Error(f)
	}
	d.Code = bare(g)
	l = append(slices.Repeat([]api.Pos{over}, api.MaxNodes-1), moving)
	f, ok := check.Check(g, d, l)
	if got := faultText(t, g, f, ok); got != "forward A.a/0/0/0/0" {
		t.Error(got)
	}
}

// P2: results share no memory with the arguments, nor one part of them with another one.
func TestMemory(t *testing.T) {
	g := specimen.Row(t, 4, "kind a\nprog go0 empty\nprog go1 empty\nprog go0 take become1\nprog go1 take become1\nkind b keep\n", "")
	p := specimen.Parsed(t, g, "A..a/02/03/1/0")
	lists := append(slices.Clone(g.Board.Next), g.Board.Turn, p.At, p.Hand[0], p.Hand[1])
	add := func(d api.Derived) {
		for _, s := range d.Syms {
			lists = append(lists, s.Cells, s.Dirs)
		}
		lists = append(lists, d.Measure.Kinds)
	}
	for range 2 {
		d, _, e := check.Accept(g, p)
		if e != api.OK || len(d.Syms) != 2 || len(d.Measure.Kinds) != 2 {
			t.Fatal(d, e)
		}
		add(d)
		d = check.Derive(g)
		add(d)
		d.Measure.Kinds = nil
		f, ok := check.Check(g, d, []api.Pos{p})
		if ok || len(f.Pos.At) != 4 {
			t.Fatal(f, ok)
		}
		lists = append(lists, f.Pos.At, f.Pos.Hand[0], f.Pos.Hand[1])
	}
	specimen.CheckApart(t, lists)
}
