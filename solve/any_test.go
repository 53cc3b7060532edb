package solve_test

import (
	"fmt"
	"math/rand/v2"
	"reflect"
	"slices"
	"testing"

	"skewer/api"
	"skewer/solve"
	"skewer/specimen"
)

// all calls the functions and returns their results.
func all(g api.Game, p api.Pos, l []api.Pos, v []api.Result) []any {
	m, e := solve.All(g, p)
	n, e1 := solve.Next(g, l)
	w, e2 := solve.Values(g, l)
	f, e3 := solve.Final(g, l)
	right, e4 := solve.Right(g, l, v)
	results := []any{e, m, e1, n, e2, w, e3, f, e4, right}
	for _, i := range []int{-1, 0, len(l) / 2, len(l)} {
		k, e := solve.Best(g, l, v, i)
		results = append(results, e, k)
	}
	return results
}

// P1, P2: no game, position, list or results make a function panic, or are modified, and the results are the same ones each time.
func TestAnything(t *testing.T) {
	r := rand.New(rand.NewPCG(9, 10))
	closed := 0
	for g, l := range samples(30) {
		v := solved(t, g, l)
		p := specimen.OtherPos(r.IntN, l[r.IntN(len(l))])
		if r.IntN(2) == 0 {
			g = specimen.OtherGame(r.IntN, g)
		}
		switch r.IntN(4) {
		case 0:
			l = slices.Concat(l, []api.Pos{p}, l[:r.IntN(len(l))])
		case 1:
			l = slices.Concat([]api.Pos{p}, l)
		}
		for range r.IntN(4) {
			v = append(v, anyResult(r))
			v[r.IntN(len(v))] = anyResult(r)
		}
		// Often there is an entry for each position, though not the right one.
		v = append(v[:min(len(v), len(l))], make([]api.Result, max(0, len(l)-len(v)-r.IntN(2)))...)
		before := fmt.Sprint(g, p, l, v)
		first := all(g, p, l, v)
		if fmt.Sprint(g, p, l, v) != before {
			t.Fatalf("%v, %v, %v, %v, not %s", g, p, l, v, before)
		}
		if !reflect.DeepEqual(all(g, p, l, v), first) {
			t.Fatalf("%v, %v, %v, %v: other results", g, p, l, v)
		}
		// With an error, there is no other result.
		for i := 0; i < len(first); i += 2 {
			if n := reflect.ValueOf(first[i+1]); first[i] != api.OK && !n.IsZero() && (n.Kind() != reflect.Slice || n.Len() > 0) {
				t.Fatalf("%v, %v, %v, %v: the error %v with %v", g, p, l, v, first[i], first[i+1])
			}
		}
		if first[2] == api.OK {
			closed++
		}
	}
	if closed < 200 {
		t.Errorf("only %d lists are closed", closed)
	}
}

// P1: games that are not valid, and have very much of everything, are refused, and so are positions that are not valid.
func TestGreatGames(t *testing.T) {
	g, p := specimen.Great()
	for _, g.Clauses = range [][]api.Clause{g.Clauses, nil} {
		if l, e := solve.All(g, p); e != api.ErrArg || len(l) != 0 {
			t.Errorf("%d positions, %v", len(l), e)
		}
		checkRefused(t, g, nil)
		checkRefused(t, g, []api.Pos{p})
	}
	h := specimen.Row(t, 6, waiters, "")
	if l, e := solve.All(h, p); e != api.ErrArg || len(l) != 0 {
		t.Errorf("%d positions, %v", len(l), e)
	}
	checkRefused(t, h, []api.Pos{p})
}

// P2: results share no memory with the arguments, nor one part of them with another one.
func TestMemory(t *testing.T) {
	g := specimen.Row(t, 6, waiters, "")
	p := specimen.Parsed(t, g, "A....b/00/00/0/0")
	lists := [][]int{p.At, p.Hand[0], p.Hand[1]}
	var l []api.Pos
	for range 2 {
		l, _ = solve.All(g, p)
		for _, q := range l {
			lists = append(lists, q.At, q.Hand[0], q.Hand[1])
		}
	}
	for range 2 {
		n, _ := solve.Next(g, l)
		f, _ := solve.Final(g, l)
		lists = append(append(lists, f), n...)
	}
	if len(l) != 10 || len(lists) != 3+2*30+2*11 {
		t.Fatal("not all results:", lists)
	}
	v, w := solved(t, g, l), solved(t, g, l)
	if v[0] = win(9); w[0] == v[0] {
		t.Error("the values have changed")
	}
	specimen.CheckApart(t, lists)
}
