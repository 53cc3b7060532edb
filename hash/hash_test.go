package hash_test

import (
	"bytes"
	"encoding/hex"
	"math"
	"slices"
	"strings"
	"testing"

	"skewer/api"
	"skewer/hash"
	"skewer/specimen"
)

// digits returns the hexadecimal digits of hashes, with spaces between these.
func digits(l ...api.Sum) string {
	var all []string
	for _, s := range l {
		all = append(all, hex.EncodeToString(s[:]))
	}
	return strings.Join(all, " ")
}

// list returns the elements with these texts.
func list(texts ...string) [][]byte {
	var l [][]byte
	for _, s := range texts {
		l = append(l, []byte(s))
	}
	return l
}

// proved returns the proof for an element.
func proved(t *testing.T, l [][]byte, i int) []api.Sum {
	t.Helper()
	proof, e := hash.Proof(l, i)
	if e != api.OK {
		t.Fatalf("%d elements, the index %d: %v", len(l), i, e)
	}
	return proof
}

// checkProof checks the proof for an element, and that it is accepted.
func checkProof(t *testing.T, l [][]byte, i int, want ...api.Sum) {
	t.Helper()
	proof := proved(t, l, i)
	if !slices.Equal(proof, want) {
		t.Errorf("%q, %d: %s, not %s", l, i, digits(proof...), digits(want...))
	}
	if !hash.Check(hash.Root(l), len(l), i, l[i], proof) {
		t.Errorf("%q, %d: refused", l, i)
	}
}

// P16.1 (AK1): the hashes of the chapter, and others that are known of the same rule.
func TestSums(t *testing.T) {
	for s, want := range map[string]string{
		"":    "e3b0c44298fc1c149afbf4c8996fb92427ae41e4649b934ca495991b7852b855",
		"abc": "ba7816bf8f01cfea414140de5dae2223b00361a396177a9cb410ff61f20015ad",
		"abcdbcdecdefdefgefghfghighijhijkijkljklmklmnlmnomnopnopq":                                                         "248d6a61d20638b8e5c026930c3e6039a33ce45964ff2167f6ecedd419db06c1",
		"abcdefghbcdefghicdefghijdefghijkefghijklfghijklmghijklmnhijklmnoijklmnopjklmnopqklmnopqrlmnopqrsmnopqrstnopqrstu": "cf5b16a778af8380036ce59e7b0492370b249b11e8f07a51afac45037afee9d1",
		strings.Repeat("a", 1000000): "cdc76e5c9914fb9281a1c7e284d73e67f1809a48a497200e046d39ccc7112cd0",
	} {
		if got := digits(hash.Sum([]byte(s))); got != want {
			t.Errorf("%.100q: %s", s, got)
		}
	}
}

// P16.1 (AK2): a leaf and a pair differ from the hash of the bytes alone, from each other, and from the pair the other way round.
func TestLeavesAndPairs(t *testing.T) {
	a, b := hash.Leaf([]byte("a")), hash.Leaf(nil)
	if a != hash.Sum([]byte("\x00a")) || b != hash.Sum([]byte{0}) {
		t.Errorf("leaves: %s", digits(a, b))
	}
	both := append(slices.Clone(a[:]), b[:]...)
	if got := hash.Pair(a, b); got != hash.Sum(append([]byte{1}, both...)) || got == hash.Pair(b, a) || got == hash.Leaf(both) {
		t.Errorf("a pair: %s", digits(got))
	}
}

// P16.1 (AK3, AK4): the trees of the chapter, and those of four to seven elements, written out.
func TestTrees(t *testing.T) {
	if digits(hash.Root(list("a", "b", "c"))) != "36642e73c2540ab121e3a6bf9545b0a24982cd830eb13d3cd19de3ce6c021ec1" {
		t.Error("Root")
	}
	if digits(proved(t, list("a", "b", "c"), 2)...) != "b137985ff484fb600db93107c77b0365c80d78f5b429ded0fd97361d077999eb" {
		t.Error("Proof")
	}
	l := list("a", "", "c", "c", "eeee", "f", "g")
	var leaf []api.Sum
	for _, b := range l {
		leaf = append(leaf, hash.Leaf(b))
	}
	ab, cd, ef := hash.Pair(leaf[0], leaf[1]), hash.Pair(leaf[2], leaf[3]), hash.Pair(leaf[4], leaf[5])
	abcd, efg := hash.Pair(ab, cd), hash.Pair(ef, leaf[6])
	for n, want := range []api.Sum{hash.Sum(nil), leaf[0], ab, hash.Pair(ab, leaf[2]), abcd, hash.Pair(abcd, leaf[4]), hash.Pair(abcd, ef), hash.Pair(abcd, efg)} {
		if got := hash.Root(l[:n]); got != want {
			t.Errorf("%d elements: %s, not %s", n, digits(got), digits(want))
		}
	}
	checkProof(t, l[:3], 0, leaf[1], leaf[2])
	checkProof(t, l[:3], 1, leaf[0], leaf[2])
	checkProof(t, l[:3], 2, ab)
	checkProof(t, l[:5], 3, leaf[2], ab, leaf[4])
	checkProof(t, l[:5], 4, abcd)
	checkProof(t, l, 0, leaf[1], cd, efg)
	checkProof(t, l, 4, leaf[5], leaf[6], abcd)
	checkProof(t, l, 5, leaf[4], leaf[6], abcd)
	checkProof(t, l, 6, ef, abcd)
}

// P16.1 (AK4, errors): for places that are not there, there is no proof.
func TestNoProofs(t *testing.T) {
	for n := range 10 {
		l := make([][]byte, n)
		for _, i := range specimen.Edges() {
			want := api.OK
			if i < 0 || i >= n {
				want = api.ErrArg
			}
			if proof, e := hash.Proof(l, i); e != want || e != api.OK && len(proof) > 0 {
				t.Errorf("%d elements, the index %d: %s, %v, not %v", n, i, digits(proof...), e, want)
			}
		}
	}
}

// P16.7: a list of one element.
func TestSingle(t *testing.T) {
	for _, b := range [][]byte{nil, {}, {0}, []byte("a"), bytes.Repeat([]byte{1}, 1000)} {
		l := [][]byte{b}
		if hash.Root(l) != hash.Leaf(b) || hash.Root(l) == hash.Root(nil) {
			t.Errorf("%q: %s", b, digits(hash.Root(l)))
		}
		checkProof(t, l, 0)
		if !hash.Check(hash.Leaf(b), 1, 0, b, nil) || hash.Check(hash.Leaf(b), 1, 0, append([]byte{2}, b...), nil) || hash.Check(hash.Root(nil), 0, 0, b, nil) {
			t.Errorf("%q: Check", b)
		}
	}
}

// P16.3: bytes that look like a pair, or like what a pair is made of, do not stand for it.
func TestPairsAreNoElements(t *testing.T) {
	l := list("a", "b")
	a, b := hash.Leaf(l[0]), hash.Leaf(l[1])
	both := append(slices.Clone(a[:]), b[:]...)
	root := hash.Root(l)
	for _, x := range [][]byte{both, append([]byte{0}, both...), append([]byte{1}, both...)} {
		if hash.Check(root, 1, 0, x, nil) || hash.Root([][]byte{x}) == root {
			t.Errorf("%q is accepted", x)
		}
		if more := [][]byte{x, l[0]}; hash.Root(more) == hash.Root(list("a", "b", "a")) {
			t.Errorf("%q stands for two elements", x)
		}
	}
}

// P16.5: for numbers and places of all sizes, proofs of no other lengths are accepted, and none where there is no place.
func TestEdges(t *testing.T) {
	proof := make([]api.Sum, 70)
	for _, n := range specimen.Edges() {
		for _, i := range append(specimen.Edges(), n-1, n/2, n/2+1) {
			if n > math.MaxInt32 {
				// The result is unspecified, but there is one.
				hash.Check(api.Sum{}, n, i, nil, proof)
				continue
			}
			lengths := 0
			for k := range len(proof) + 1 {
				root := toldRoot(n, i, nil, proof[:k])
				if hash.Check(root, n, i, nil, proof[:k]) {
					lengths++
				}
			}
			want := 0
			if i >= 0 && i < n {
				want = 1
			}
			if lengths != want {
				t.Errorf("%d elements, the index %d: %d lengths are accepted", n, i, lengths)
			}
		}
	}
}
