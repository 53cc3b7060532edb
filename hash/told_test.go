package hash_test

import (
	"bytes"
	"crypto/sha256"
	"math"
	"math/bits"
	"math/rand/v2"
	"slices"
	"testing"

	"skewer/api"
	"skewer/hash"
)

// The hash of the chapter is SHA-256, for which Go's library has a program of its own.

// anyBytes returns so many bytes.
func anyBytes(r *rand.Rand, n int) []byte {
	b := make([]byte, n)
	for i := range b {
		b[i] = byte(r.Uint32())
	}
	return b
}

// anySum returns a hash of something.
func anySum(r *rand.Rand) api.Sum {
	return api.Sum(anyBytes(r, 32))
}

// anyElements returns so many elements, of which some are empty, and some are equal.
func anyElements(r *rand.Rand, n int) [][]byte {
	var l [][]byte
	for range n {
		switch r.IntN(8) {
		case 0:
			l = append(l, nil)
		case 1:
			l = append(l, []byte("equal"))
		default:
			l = append(l, anyBytes(r, r.IntN(80)))
		}
	}
	return l
}

// distinct returns so many elements, each of which is different from the others.
func distinct(n int) [][]byte {
	var l [][]byte
	for i := range n {
		l = append(l, []byte{byte(i >> 8), byte(i)})
	}
	return l
}

// toldLeaf returns the bytes of which the leaf of an element is the hash.
func toldLeaf(b []byte) []byte {
	return append([]byte{0}, b...)
}

// toldPair returns the bytes of which the pair of two hashes is the hash.
func toldPair(a, b api.Sum) []byte {
	return append(append([]byte{1}, a[:]...), b[:]...)
}

// toldFirst returns the number of the elements in the first part.
func toldFirst(n int) int {
	return 1 << (bits.Len(uint(n-1)) - 1)
}

// toldTree returns the root of the elements, as the chapter tells it.
func toldTree(l [][]byte) api.Sum {
	switch n := len(l); n {
	case 0:
		return sha256.Sum256(nil)
	case 1:
		return sha256.Sum256(toldLeaf(l[0]))
	default:
		m := toldFirst(n)
		return sha256.Sum256(toldPair(toldTree(l[:m]), toldTree(l[m:])))
	}
}

// toldProof returns the proof for an element, as the chapter tells it.
func toldProof(l [][]byte, i int) []api.Sum {
	if len(l) == 1 {
		return nil
	}
	m := toldFirst(len(l))
	if i < m {
		return append(toldProof(l[:m], i), toldTree(l[m:]))
	}
	return append(toldProof(l[m:], i-m), toldTree(l[:m]))
}

// toldWay returns all bytes that are hashed, from the leaf to the root, with a proof for the element b with the index i of n, or nothing if the place is not there, or the proof has another length. It goes by the binary digits of the places, and not by the parts.
func toldWay(n, i int, b []byte, proof []api.Sum) [][]byte {
	if i < 0 || i >= n {
		return nil
	}
	way := [][]byte{toldLeaf(b)}
	last := n - 1
	for _, s := range proof {
		// Where the last place of a level has no neighbor, it stands for itself on the next one.
		for last > 0 && i == last && i%2 == 0 {
			i, last = i/2, last/2
		}
		if last == 0 {
			return nil
		}
		at := api.Sum(sha256.Sum256(way[len(way)-1]))
		if i%2 == 0 {
			way = append(way, toldPair(at, s))
		} else {
			way = append(way, toldPair(s, at))
		}
		i, last = i/2, last/2
	}
	if last > 0 {
		return nil
	}
	return way
}

// toldRoot returns the root that belongs to a proof, or else the zero hash.
func toldRoot(n, i int, b []byte, proof []api.Sum) api.Sum {
	if way := toldWay(n, i, b, proof); way != nil {
		return sha256.Sum256(way[len(way)-1])
	}
	return api.Sum{}
}

// P16.1 (AK1): bytes of all lengths around the ends of blocks, and others, at all places of a longer list.
func TestToldSums(t *testing.T) {
	r := rand.New(rand.NewPCG(1, 2))
	b := anyBytes(r, 20000)
	for n := range 400 {
		for range 3 {
			from := r.IntN(200)
			if x := b[from : from+n]; hash.Sum(x) != sha256.Sum256(x) || hash.Leaf(x) != sha256.Sum256(toldLeaf(x)) {
				t.Fatalf("%d bytes: %s, %s", n, digits(hash.Sum(x)), digits(hash.Leaf(x)))
			}
		}
		// Bytes that make words with all digits 0, or all digits 1, and the byte that ends all others.
		for _, c := range []byte{0, 128, 255} {
			if x := bytes.Repeat([]byte{c}, n); hash.Sum(x) != sha256.Sum256(x) {
				t.Fatalf("%d times %d", n, c)
			}
		}
	}
	for range 300 {
		x := b[:r.IntN(len(b))]
		if hash.Sum(x) != sha256.Sum256(x) {
			t.Fatalf("%d bytes", len(x))
		}
		p, q := anySum(r), anySum(r)
		if hash.Pair(p, q) != sha256.Sum256(toldPair(p, q)) {
			t.Fatalf("the pair of %s", digits(p, q))
		}
	}
}

// P16.1 (AK1): the number of bits of many bytes has more than 32 binary digits.
func TestLong(t *testing.T) {
	b := make([]byte, 1<<29+5)
	if got := hash.Sum(b); got != sha256.Sum256(b) {
		t.Errorf("%d bytes: %s", len(b), digits(got))
	}
}

// checkTree checks the root of the elements, and the proofs for those with these indices.
func checkTree(t *testing.T, l [][]byte, indices ...int) {
	t.Helper()
	root := hash.Root(l)
	if root != toldTree(l) {
		t.Fatalf("%d elements: %s", len(l), digits(root))
	}
	for _, i := range indices {
		proof := proved(t, l, i)
		if !slices.Equal(proof, toldProof(l, i)) {
			t.Fatalf("%d elements, the index %d: %s", len(l), i, digits(proof...))
		}
		if !hash.Check(root, len(l), i, l[i], proof) {
			t.Fatalf("%d elements, the index %d: refused", len(l), i)
		}
		if len(proof) > bits.Len(uint(len(l)-1)) {
			t.Fatalf("%d elements, the index %d: %d hashes", len(l), i, len(proof))
		}
	}
}

// all returns the numbers from 0 to n - 1.
func all(n int) []int {
	var l []int
	for i := range n {
		l = append(l, i)
	}
	return l
}

// P16.1 (AK3, AK4), P16.2, P16.5: the roots and proofs are those that the chapter tells, each proof is accepted, and none is longer than the digits of the number say.
func TestToldTrees(t *testing.T) {
	r := rand.New(rand.NewPCG(3, 4))
	for n := range 100 {
		checkTree(t, anyElements(r, n), all(n)...)
	}
	for _, n := range []int{127, 128, 129, 255, 256, 257, 1000, 2047, 2048, 2049, 4000} {
		checkTree(t, anyElements(r, n), 0, 1, n/2-1, n/2, n-2, n-1, r.IntN(n), r.IntN(n))
	}
	checkTree(t, make([][]byte, 50), all(50)...)
}

// P16.4: the root of more than one element is the pair of the roots of both parts; a proof is one in the part, and the root of the other part.
func TestParts(t *testing.T) {
	r := rand.New(rand.NewPCG(5, 6))
	for n := 2; n < 70; n++ {
		l := anyElements(r, n)
		m := toldFirst(n)
		parts := [2]api.Sum{hash.Root(l[:m]), hash.Root(l[m:])}
		if hash.Root(l) != hash.Pair(parts[0], parts[1]) {
			t.Fatalf("%d elements: %s", n, digits(hash.Root(l)))
		}
		for i := range l {
			want := append(slices.Clone(proved(t, l[:m], min(i, m-1))), parts[1])
			if i >= m {
				want = append(slices.Clone(proved(t, l[m:], i-m)), parts[0])
			}
			if got := proved(t, l, i); !slices.Equal(got, want) {
				t.Fatalf("%d elements, the index %d: %s", n, i, digits(got...))
			}
		}
	}
}

// P16.6: the proofs of two elements that make a pair differ only in their first hash; those of others differ in more.
func TestNeighbors(t *testing.T) {
	for n := 2; n < 70; n++ {
		l := distinct(n)
		for i := range n - 1 {
			p, q := proved(t, l, i), proved(t, l, i+1)
			if i%2 == 1 {
				if len(p) == len(q) && slices.Equal(p[1:], q[1:]) {
					t.Fatalf("%d elements, the index %d: neighbors", n, i)
				}
				continue
			}
			if p[0] != hash.Leaf(l[i+1]) || q[0] != hash.Leaf(l[i]) || !slices.Equal(p[1:], q[1:]) {
				t.Fatalf("%d elements, the index %d: %s; %s", n, i, digits(p...), digits(q...))
			}
		}
	}
}

// claimed is an element, its place, and a proof for it.
type claimed struct {
	n, i  int
	b     []byte
	proof []api.Sum
}

// anyNumber returns a number of elements, small or great.
func anyNumber(r *rand.Rand) int {
	switch r.IntN(4) {
	case 0:
		return 1 + r.IntN(math.MaxInt32)
	case 1:
		return min(math.MaxInt32, 1<<r.IntN(32)+r.IntN(3))
	}
	return 1 + r.IntN(70)
}

// anyClaimed returns an element at some place, with hashes in its proof that belong to no list, but as many as are wanted.
func anyClaimed(r *rand.Rand) claimed {
	n := anyNumber(r)
	x := claimed{n: n, i: r.IntN(n), b: anyBytes(r, r.IntN(40))}
	if r.IntN(3) == 0 {
		x.i = n - 1 - r.IntN(min(n, 3))
	}
	for toldWay(x.n, x.i, x.b, x.proof) == nil {
		x.proof = append(x.proof, anySum(r))
	}
	return x
}

// changed returns a copy of x, in which something is another one.
func changed(r *rand.Rand, x claimed) claimed {
	y := claimed{x.n, x.i, slices.Clone(x.b), slices.Clone(x.proof)}
	k := 0
	if len(y.proof) > 0 {
		k = r.IntN(len(y.proof))
	}
	switch r.IntN(9) {
	case 0:
		y.b = append(y.b, byte(r.IntN(3)))
	case 1:
		y.b = anyBytes(r, r.IntN(3))
	case 2:
		y.n = anyNumber(r)
	case 3:
		y.i += 1 - 2*r.IntN(2)
	case 4:
		y.i ^= 1 << r.IntN(31)
	case 5:
		y.proof = slices.Insert(y.proof, k, anySum(r))
	case 6:
		y.proof = slices.Delete(y.proof, k, min(k+1, len(y.proof)))
	case 7:
		if len(y.proof) > 0 {
			y.proof[k][r.IntN(32)] ^= 1 << r.IntN(8)
		}
	case 8:
		slices.Reverse(y.proof)
	}
	return y
}

// P16.1 (AK5), P16.5: for numbers of all sizes, Check accepts what the chapter tells, and refuses all else.
func TestToldCheck(t *testing.T) {
	r := rand.New(rand.NewPCG(7, 8))
	accepted, refused := 0, 0
	for range 20000 {
		x := anyClaimed(r)
		y := changed(r, x)
		rightRoot, root := toldRoot(x.n, x.i, x.b, x.proof), toldRoot(y.n, y.i, y.b, y.proof)
		if !hash.Check(rightRoot, x.n, x.i, x.b, x.proof) {
			t.Fatalf("%v is refused", x)
		}
		other := root
		other[r.IntN(32)] ^= 1 << r.IntN(8)
		for _, s := range []api.Sum{rightRoot, root, other} {
			want := s == root && toldWay(y.n, y.i, y.b, y.proof) != nil
			if got := hash.Check(s, y.n, y.i, y.b, y.proof); got != want {
				t.Fatalf("%v, from %v: %t", y, x, got)
			}
			if want {
				accepted++
			} else {
				refused++
			}
		}
	}
	if min(accepted, refused) < 10000 {
		t.Errorf("%d are accepted, %d refused", accepted, refused)
	}
}

// named returns two different lists of bytes with the same hash, if two ways of the same number and place, which are different, have the same root.
func named(x, y [][]byte) (a, b []byte, ok bool) {
	for k := len(x) - 1; k >= 0 && k < len(y); k-- {
		if !bytes.Equal(x[k], y[k]) {
			return x[k], y[k], sha256.Sum256(x[k]) == sha256.Sum256(y[k])
		}
	}
	return nil, nil, false
}

// P16.3: where an element, or a proof, is another one, it is refused for the same root, number and place, unless two different lists of bytes with the same hash are named by it.
func TestBinding(t *testing.T) {
	r := rand.New(rand.NewPCG(9, 10))
	tried := 0
	for range 20000 {
		x := anyClaimed(r)
		y := changed(r, x)
		y.n, y.i = x.n, x.i
		if bytes.Equal(x.b, y.b) && slices.Equal(x.proof, y.proof) {
			continue
		}
		tried++
		root := toldRoot(x.n, x.i, x.b, x.proof)
		if !hash.Check(root, x.n, x.i, x.b, x.proof) || !hash.Check(root, y.n, y.i, y.b, y.proof) {
			continue
		}
		if _, _, ok := named(toldWay(x.n, x.i, x.b, x.proof), toldWay(y.n, y.i, y.b, y.proof)); !ok {
			t.Fatalf("%v and %v are both accepted", x, y)
		}
	}
	if tried < 10000 {
		t.Errorf("only %d are different", tried)
	}
}

// P16.3: each byte of an element and of a proof counts, and each byte that is added.
func TestEachByte(t *testing.T) {
	for n := 1; n < 20; n++ {
		l := distinct(n)
		root := hash.Root(l)
		for i, b := range l {
			proof := proved(t, l, i)
			for k := range b {
				other := slices.Clone(b)
				other[k] ^= 128
				if hash.Check(root, n, i, other, proof) || hash.Check(root, n, i, b[:k], proof) || hash.Check(root, n, i, append(other[:k:k], 0, 0, 0), proof) {
					t.Fatalf("%d elements, the index %d: another byte %d", n, i, k)
				}
			}
			for k := range 32 * len(proof) {
				other := slices.Clone(proof)
				other[k/32][k%32] ^= 1
				if hash.Check(root, n, i, b, other) {
					t.Fatalf("%d elements, the index %d: another byte %d of the proof", n, i, k)
				}
			}
			for k := range root {
				other := root
				other[k] ^= 64
				if hash.Check(other, n, i, b, proof) {
					t.Fatalf("%d elements, the index %d: another byte %d of the root", n, i, k)
				}
			}
		}
	}
}

// P16.5: of elements that are different from each other, each is refused at all other places, for all other numbers with which its proof has another length or way, and with all other lengths.
func TestPlaces(t *testing.T) {
	const most = 24
	for n := 1; n <= most; n++ {
		l := distinct(n)
		root := hash.Root(l)
		for i, b := range l {
			proof := proved(t, l, i)
			for k := -2; k < most; k++ {
				if hash.Check(root, n, k, b, proof) != (k == i) {
					t.Fatalf("%d elements, the index %d: as %d", n, i, k)
				}
			}
			for m := -1; m <= 2*most; m++ {
				if hash.Check(root, m, i, b, proof) != (toldRoot(m, i, b, proof) == root) {
					t.Fatalf("%d elements, the index %d: of %d", n, i, m)
				}
			}
			long := append(slices.Clone(proof), proof...)
			long = append(long, root, api.Sum{})
			for k := range len(long) + 1 {
				if hash.Check(root, n, i, b, long[:k]) != (k == len(proof)) {
					t.Fatalf("%d elements, the index %d: %d hashes", n, i, k)
				}
			}
		}
	}
}
