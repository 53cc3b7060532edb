package table_test

import (
	"fmt"
	"reflect"
	"slices"
	"testing"

	"skewer/api"
	"skewer/slice"
	"skewer/specimen"
	"skewer/table"
)

// all calls the functions and returns their errors, each one followed by the other results.
func all(g api.Game, m api.Measure, l []api.Pos, v []api.Result, part []int, budget int) [][]any {
	w, loads, e := table.Slice(g, l, v, part, budget)
	made, n, e2 := table.Make(g, m, l, budget)
	z, e3 := table.Zero(g, m, l, v)
	return [][]any{{e, w, loads}, {e2, made, n}, {e3, z}}
}

// isZero reports whether x is an empty slice or a zero value.
func isZero(x any) bool {
	v := reflect.ValueOf(x)
	return v.IsZero() || v.Kind() == reflect.Slice && v.Len() == 0
}

// P1, P2: no game, measure, list, results, part or budget make a function panic, or are modified, and the results are the same ones each time; with an error, there is nothing else.
func TestAnything(t *testing.T) {
	right, refused := make([]int, 3), make([]int, 3)
	edges := specimen.Edges()
	for pick, x := range samples(30) {
		g, l, m := x.g, x.l, specimen.Measure(pick, x.g)
		v, part, budget := slices.Clone(x.v), anyPart(pick, len(l)), anyBudget(pick, len(l))
		switch pick(12) {
		case 0:
			g = specimen.OtherGame(pick, g)
		case 1:
			l = slices.Insert(slices.Clone(l), pick(len(l)), specimen.OtherPos(pick, l[0]))
		case 2:
			l = l[1:]
		case 3:
			v = v[1:]
		case 4:
			part = append(part, edges[pick(len(edges))])
		case 5:
			budget = edges[pick(len(edges))]
		case 6:
			m = api.Measure{Kinds: edges[:pick(len(edges))]}
		case 7:
			m = api.Measure{Kinds: []int{edges[pick(len(edges))]}}
		case 8:
			v = anyResults(pick, len(l))
		case 9:
			v[pick(len(v))].N = edges[pick(len(edges))]
		}
		before := fmt.Sprint(g, m, l, v, part)
		first := all(g, m, l, v, part, budget)
		if fmt.Sprint(g, m, l, v, part) != before {
			t.Fatalf("%v, %v, %v, %v, %v, not %s", g, m, l, v, part, before)
		}
		if !reflect.DeepEqual(all(g, m, l, v, part, budget), first) {
			t.Fatalf("%v, %v, %v, %v, %v: other results", g, m, l, v, part)
		}
		for n, results := range first {
			if results[0] == api.OK {
				right[n]++
				continue
			}
			refused[n]++
			if slices.ContainsFunc(results[1:], func(r any) bool { return !isZero(r) }) {
				t.Fatalf("%v, %v, %v, %v, %v: %v", g, m, l, v, part, results)
			}
		}
	}
	if slices.Min(right) < 300 || slices.Min(refused) < 50 {
		t.Errorf("only %v are right, and %v refused", right, refused)
	}
}

// P1: games that are not valid, and have very much of everything, have no closed list.
func TestGreatGames(t *testing.T) {
	g, p := specimen.Great()
	for _, l := range [][]api.Pos{nil, {p}, {p, p}} {
		for n, results := range all(g, slice.Of(g), l, make([]api.Result, len(l)), nil, 1) {
			if results[0] != api.ErrList || slices.ContainsFunc(results[1:], func(r any) bool { return !isZero(r) }) {
				t.Errorf("%d positions, the function %d: %v", len(l), n, results)
			}
		}
	}
}

// P2: results share no memory with the arguments, nor with those of other calls.
func TestMemory(t *testing.T) {
	g, l := chain(t)
	v, part := []api.Result{win(1), loss(0), loss(2)}, []int{0, 2}
	w, _, _ := table.Slice(g, l, v, part, 1)
	same, _, _ := table.Slice(g, l, v, nil, 1)
	made, _, _ := table.Make(g, slice.Of(g), l, 1)
	again, _, _ := table.Make(g, slice.Of(g), l, 1)
	lists := [][]api.Result{v, w, same, made, again}
	for n, r := range lists {
		if !slices.Equal(r, lists[0]) || len(r) != 3 {
			t.Fatal(n, r)
		}
	}
	for n, r := range lists {
		for i := range r {
			r[i] = drawn(n)
		}
	}
	for n, r := range lists {
		if slices.ContainsFunc(r, func(x api.Result) bool { return x != drawn(n) }) {
			t.Errorf("the list %d has changed: %v", n, r)
		}
	}
	v = []api.Result{win(1), loss(0), loss(2)}
	zeros := [][]int{part}
	for range 2 {
		z, _ := table.Zero(g, slice.Of(g), l, v)
		zeros = append(zeros, z)
	}
	specimen.CheckApart(t, zeros)
}
