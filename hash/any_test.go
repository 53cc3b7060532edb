package hash_test

import (
	"fmt"
	"math/rand/v2"
	"reflect"
	"slices"
	"testing"

	"skewer/api"
	"skewer/hash"
	"skewer/specimen"
)

// results calls the functions and returns their results.
func results(l [][]byte, x claimed, s api.Sum) []any {
	proof, e := hash.Proof(l, x.i)
	return []any{proof, e, hash.Root(l), hash.Sum(x.b), hash.Leaf(x.b), hash.Pair(s, s), hash.Check(s, x.n, x.i, x.b, x.proof), hash.Check(hash.Root(l), len(l), x.i, x.b, proof)}
}

// P1, P2, AK6: no arguments make a function panic, or are modified, nor is what is behind them; the results are the same ones each time; with an error, there is no proof.
func TestAnything(t *testing.T) {
	r := rand.New(rand.NewPCG(11, 12))
	edges := specimen.Edges()
	right, refused := 0, 0
	for range 4000 {
		// What stands behind a list of bytes may belong to somebody else.
		bytesOf := anyBytes(r, 300)
		x := claimed{n: edges[r.IntN(len(edges))], i: r.IntN(12) - 3, b: bytesOf[:r.IntN(200)]}
		if r.IntN(4) == 0 {
			x.i = edges[r.IntN(len(edges))]
		}
		for range r.IntN(70) {
			x.proof = append(x.proof, anySum(r))
		}
		elements := anyElements(r, 12)
		for i := range elements {
			elements[i] = bytesOf[i*9 : i*9+r.IntN(30)]
		}
		l := elements[:r.IntN(12)]
		before := fmt.Sprint(bytesOf, elements, x)
		first := results(l, x, hash.Sum(x.b))
		if fmt.Sprint(bytesOf, elements, x) != before {
			t.Fatalf("%v, %v, %v, not %s", bytesOf, elements, x, before)
		}
		if !reflect.DeepEqual(results(l, x, hash.Sum(x.b)), first) {
			t.Fatalf("%v, %v: other results", l, x)
		}
		if first[1] == api.OK {
			right++
			continue
		}
		refused++
		if first[1] != api.ErrArg || len(first[0].([]api.Sum)) != 0 {
			t.Fatalf("%v, %d: %v", l, x.i, first)
		}
	}
	if min(right, refused) < 1000 {
		t.Errorf("only %d are right, and %d refused", right, refused)
	}
}

// P2: the proofs of two calls share no memory.
func TestMemory(t *testing.T) {
	l := distinct(11)
	for i := range l {
		want := toldProof(l, i)
		p, q := proved(t, l, i), proved(t, l, i)
		clear(p[:cap(p)])
		if !slices.Equal(q, want) || !slices.Equal(proved(t, l, i), want) {
			t.Errorf("the index %d: %s", i, digits(q...))
		}
	}
}

// P1, P16.2: elements that are very many have a root, and proofs that are accepted.
func TestMany(t *testing.T) {
	l := make([][]byte, 1<<17+1)
	root := hash.Root(l)
	for _, i := range []int{0, 1 << 16, 1<<17 - 1, 1 << 17} {
		proof := proved(t, l, i)
		if !hash.Check(root, len(l), i, nil, proof) {
			t.Errorf("the index %d", i)
		}
	}
}
