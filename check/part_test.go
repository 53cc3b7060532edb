package check

import (
	"fmt"
	"slices"
	"testing"

	"skewer/api"
	"skewer/attack"
	"skewer/back"
	"skewer/play"
	"skewer/pos"
	"skewer/slice"
	"skewer/solve"
	"skewer/specimen"
	"skewer/sym"
)

// The lower layers are right: so it is here alone, where others stand in their places, that something is wrong with them.

// steppers has a kind whose men step and capture to both sides, and become others when they capture, and these.
const steppers = "kind a\nprog go0 empty\nprog go1 empty\nprog go0 enemy take become1\nprog go1 enemy take become1\nkind b\n"

// reached returns a game on a row of cells, some of its positions, which are closed, and the moves from each of them.
func reached(t *testing.T) (api.Game, []api.Pos, [][]int) {
	t.Helper()
	g := specimen.Row(t, 7, steppers, "")
	l, e := solve.All(g, specimen.Parsed(t, g, "AA..a../00/00/1/0"))
	if e != api.OK {
		t.Fatal(e)
	}
	next, e := solve.Next(g, l)
	if e != api.OK || len(l) < 50 || len(l) > 100 {
		t.Fatal(len(l), e)
	}
	return g, l, next
}

// checkWrong checks that a part is wrong at those positions of l of which the function says so.
func checkWrong(t *testing.T, name string, g api.Game, l []api.Pos, wrong condition, want func(i int) bool) {
	t.Helper()
	for i, p := range l {
		if got := wrong(p, play.Moves(g, p)); got != want(i) {
			t.Errorf("%s, %s: %v", name, pos.Print(g, p), got)
		}
	}
}

// only returns the function that says so of the position i alone.
func only(i int) func(int) bool {
	return func(j int) bool { return j == i }
}

// none says so of no position.
func none(int) bool { return false }

// same returns the function that reports whether a position is p.
func same(p api.Pos) func(api.Pos) bool {
	return func(q api.Pos) bool { return pos.Compare(p, q) == 0 }
}

// goingBack returns the condition of going back where other positions are before that with the index i.
func goingBack(g api.Game, l []api.Pos, i int, other func(before []api.Pos) ([]api.Pos, api.Errno)) condition {
	return backward(pasts(g, l, func(q api.Pos) ([]api.Pos, api.Errno) {
		before, e := back.Back(g, q)
		if pos.Compare(q, l[i]) == 0 {
			return other(before)
		}
		return before, e
	}))
}

// P13.1: going back is wrong at the position that is missing before a move from it.
func TestMissing(t *testing.T) {
	g, l, next := reached(t)
	for i, moves := range next {
		for _, to := range moves {
			wrong := goingBack(g, l, to, func(before []api.Pos) ([]api.Pos, api.Errno) {
				return slices.DeleteFunc(before, same(l[i])), api.OK
			})
			checkWrong(t, fmt.Sprintf("%d missing before %d", i, to), g, l, wrong, only(i))
		}
		wrong := goingBack(g, l, i, func(before []api.Pos) ([]api.Pos, api.Errno) { return nil, api.OK })
		checkWrong(t, fmt.Sprintf("none before %d", i), g, l, wrong, func(j int) bool { return slices.Contains(next[j], i) })
	}
}

// P13.1: going back is wrong at a position that is no move from one of those before it, wherever that one stands.
func TestFalse(t *testing.T) {
	g, l, next := reached(t)
	for i := range next {
		for at := range 3 {
			wrong := goingBack(g, l, i, func(before []api.Pos) ([]api.Pos, api.Errno) {
				return slices.Insert(before, min(at, len(before)), l[(i+7)%len(l)]), api.OK
			})
			legal := slices.Contains(next[(i+7)%len(l)], i)
			checkWrong(t, fmt.Sprintf("a further one before %d", i), g, l, wrong, func(j int) bool { return j == i && !legal })
		}
	}
}

// P13.1: where going back gives an error, nothing is wrong.
func TestUntold(t *testing.T) {
	g, l, _ := reached(t)
	for i := range l {
		wrong := goingBack(g, l, i, func([]api.Pos) ([]api.Pos, api.Errno) { return nil, api.ErrBig })
		checkWrong(t, fmt.Sprintf("an error for %d", i), g, l, wrong, none)
	}
}

// From each position it is gone back once, however many moves lead to it; also where not all of them are in the list.
func TestOnce(t *testing.T) {
	g, l, _ := reached(t)
	for n := 1; n <= len(l); n += 7 {
		counts, edges := map[string]int{}, 0
		wrong := backward(pasts(g, l[:n], func(q api.Pos) ([]api.Pos, api.Errno) {
			counts[pos.Key(q)]++
			return back.Back(g, q)
		}))
		for range 2 {
			checkWrong(t, fmt.Sprint(n, " positions"), g, l[:n], wrong, none)
		}
		for key, count := range counts {
			if count != 1 {
				t.Errorf("%d times from %q", count, key)
			}
			edges++
		}
		if edges < n || edges > len(l) {
			t.Errorf("%d positions, and gone back from %d", n, edges)
		}
	}
}

// updating returns the condition of lines where those of a position with the index i are updated to others.
func updating(g api.Game, l []api.Pos, i int, other func(men []api.Lines) []api.Lines) condition {
	return attacks(g, func(g api.Game, a api.Attack, q api.Pos) api.Attack {
		updated := attack.Update(g, a, q)
		if pos.Compare(q, l[i]) == 0 {
			updated.Men = other(updated.Men)
		}
		return updated
	})
}

// P13.1: lines are wrong at each position from which a move leads to lines that are updated to others: other cells, or more or fewer men.
func TestAttacks(t *testing.T) {
	g, l, next := reached(t)
	for name, other := range map[string]func(men []api.Lines) []api.Lines{
		"cell":  func(men []api.Lines) []api.Lines { men[len(men)-1].Cell++; return men },
		"reads": func(men []api.Lines) []api.Lines { men[len(men)-1].Reads[0]++; return men },
		"fewer reads": func(men []api.Lines) []api.Lines {
			men[len(men)-1].Reads = nil
			return men
		},
		"takes":     func(men []api.Lines) []api.Lines { men[0].Takes = append(men[0].Takes, 9); return men },
		"fewer men": func(men []api.Lines) []api.Lines { return men[1:] },
		"more men":  func(men []api.Lines) []api.Lines { return append(men, api.Lines{}) },
		"no men":    func(men []api.Lines) []api.Lines { return nil },
	} {
		for i := 0; i < len(l); i += 2 {
			checkWrong(t, name, g, l, updating(g, l, i, other), func(j int) bool { return slices.Contains(next[j], i) })
		}
	}
	right := func(men []api.Lines) []api.Lines {
		for i := range men {
			men[i].Reads, men[i].Takes = append([]int{}, men[i].Reads...), append([]int{}, men[i].Takes...)
		}
		return men
	}
	checkWrong(t, "copied", g, l, updating(g, l, 0, right), none)
	elsewhere := attacks(g, func(g api.Game, a api.Attack, q api.Pos) api.Attack {
		updated := attack.Update(g, a, q)
		updated.Pos = api.Pos{}
		return updated
	})
	checkWrong(t, "another position", g, l, elsewhere, none)
}

// P13.1: it is the attack of the position itself that is updated.
func TestUpdated(t *testing.T) {
	g, l, next := reached(t)
	for i, p := range l {
		var updated []string
		wrong := attacks(g, func(g api.Game, a api.Attack, q api.Pos) api.Attack {
			if fmt.Sprint(a) != fmt.Sprint(attack.Make(g, p)) {
				t.Errorf("%d: %v", i, a)
			}
			updated = append(updated, pos.Print(g, q))
			return attack.Update(g, a, q)
		})
		checkWrong(t, "updated", g, []api.Pos{p}, wrong, none)
		var moves []string
		for _, to := range next[i] {
			moves = append(moves, pos.Print(g, l[to]))
		}
		if !slices.Equal(updated, moves) {
			t.Errorf("%d: updated to %v, not %v", i, updated, moves)
		}
	}
}

// P13.1: a permutation that is taken for a symmetry is wrong at the positions where it changes the moves, or the end.
func TestChangingSyms(t *testing.T) {
	valid := func(api.Game, api.Sym) bool { return true }
	id, swap := api.Sym{Cells: []int{0, 1, 2}}, api.Sym{Cells: []int{2, 1, 0}}
	for _, c := range []struct {
		name, kinds, clauses, p string
		syms                    []api.Sym
		want                    bool
	}{
		{"a symmetry", steppers, "", "A.a/00/00/0/0", []api.Sym{id, swap, swap}, false},
		{"no symmetries", steppers, "", "A.a/00/00/0/0", nil, false},
		{"more moves", "kind a\nprog go0\n", "", ".AA/0/0/0/0", []api.Sym{swap}, true},
		{"fewer moves", "kind a\nprog go0\n", "", "AA./0/0/0/0", []api.Sym{swap}, true},
		{"as many others", "kind a\nprog go0\n", "", "A..A/0/0/0/0", []api.Sym{{Cells: []int{1, 0, 2, 3}}}, true},
		{"as many others, in the end", "kind a\nprog go0\n", "", "A..A/0/0/0/0", []api.Sym{{Cells: []int{0, 1, 2, 3}}, {Cells: []int{1, 0, 2, 3}}}, true},
		{"a move to the image of another one", "kind a\nprog slide0\n", "", "A.../0/0/0/0", []api.Sym{{Cells: []int{0, 2, 1, 3}}}, false},
		{"moves to images, and one more", "kind a\nprog slide0\n", "", ".A../0/0/0/0", []api.Sym{{Cells: []int{3, 0, 1, 2}}}, true},
		{"over, both", "kind a\nprog go0\n", "", "a.a/0/0/0/0", []api.Sym{swap}, false},
		{"over, with another result", "kind a\n", "holds a 0 win\n", "a../0/0/0/0", []api.Sym{swap}, true},
		{"over without the clause", "kind a\n", "holds a 0 loss\n", "a../0/0/0/0", []api.Sym{swap}, false},
		{"over alone", "kind a\nprog empty\n", "holds a 0 loss\n", "a.A/0/0/0/0", []api.Sym{swap}, true},
	} {
		g := specimen.Row(t, len(c.p[:slices.Index([]byte(c.p), '/')]), c.kinds, c.clauses)
		l := []api.Pos{specimen.Parsed(t, g, c.p)}
		checkWrong(t, c.name, g, l, symmetry(g, c.syms, valid), func(int) bool { return c.want })
	}
}

// P13.1: if a symmetry is not valid, each position is wrong, whether it is over or not.
func TestInvalidSyms(t *testing.T) {
	g, l, _ := reached(t)
	both := sym.Find(g)
	if len(both) != 2 {
		t.Fatal(both)
	}
	every := func(int) bool { return true }
	for i, s := range both {
		valid := func(_ api.Game, r api.Sym) bool { return !slices.Equal(r.Cells, s.Cells) }
		checkWrong(t, fmt.Sprint("not ", s), g, l, symmetry(g, both, valid), every)
		checkWrong(t, fmt.Sprint("without ", s), g, l, symmetry(g, slices.Delete(slices.Clone(both), i, i+1), valid), none)
	}
}

// P13.1: a measure that is taken for a right one is wrong at the positions from which a move leads to a greater level; one that is not right is wrong at each.
func TestRising(t *testing.T) {
	g, l, next := reached(t)
	rises, all := 0, 0
	for _, weights := range [][]int{{1, 2}, {1, 3}, {1, 1}, {3, 1}, {-1, -1}, {0, 0}} {
		m := api.Measure{Kinds: weights}
		want := func(i int) bool {
			all++
			for _, to := range next[i] {
				if slice.Level(m, l[to]) > slice.Level(m, l[i]) {
					rises++
					return true
				}
			}
			return false
		}
		checkWrong(t, fmt.Sprint(weights), g, l, progress(g, m, func(api.Game, api.Measure) bool { return true }), want)
		checkWrong(t, fmt.Sprint(weights, ", not right"), g, l, progress(g, m, func(api.Game, api.Measure) bool { return false }), func(int) bool { return true })
	}
	if rises < 10 || all-rises < 200 {
		t.Errorf("only %d of %d rise", rises, all)
	}
}
