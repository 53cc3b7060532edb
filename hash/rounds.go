package hash

import "skewer/api"

// words are the eight words of which a hash is made. They are a value, so rounds change copies, which are added to what was there before.
type words [8]uint32

// block has the bytes that are taken up at a time.
type block [64]byte

// atFirst has the words before the first block.
var atFirst = words{0x6a09e667, 0xbb67ae85, 0x3c6ef372, 0xa54ff53a, 0x510e527f, 0x9b05688c, 0x1f83d9ab, 0x5be0cd19}

// constants has what is added in each round.
var constants = [...]uint32{
	0x428a2f98, 0x71374491, 0xb5c0fbcf, 0xe9b5dba5, 0x3956c25b, 0x59f111f1, 0x923f82a4, 0xab1c5ed5,
	0xd807aa98, 0x12835b01, 0x243185be, 0x550c7dc3, 0x72be5d74, 0x80deb1fe, 0x9bdc06a7, 0xc19bf174,
	0xe49b69c1, 0xefbe4786, 0x0fc19dc6, 0x240ca1cc, 0x2de92c6f, 0x4a7484aa, 0x5cb0a9dc, 0x76f988da,
	0x983e5152, 0xa831c66d, 0xb00327c8, 0xbf597fc7, 0xc6e00bf3, 0xd5a79147, 0x06ca6351, 0x14292967,
	0x27b70a85, 0x2e1b2138, 0x4d2c6dfc, 0x53380d13, 0x650a7354, 0x766a0abb, 0x81c2c92e, 0x92722c85,
	0xa2bfe8a1, 0xa81a664b, 0xc24b8b70, 0xc76c51a3, 0xd192e819, 0xd6990624, 0xf40e3585, 0x106aa070,
	0x19a4c116, 0x1e376c08, 0x2748774c, 0x34b0bcb5, 0x391c0cb3, 0x4ed8aa4a, 0x5b9cca4f, 0x682e6ff3,
	0x748f82ee, 0x78a5636f, 0x84c87814, 0x8cc70208, 0x90befffa, 0xa4506ceb, 0xbef9a3f7, 0xc67178f2,
}

// hashing is the hash of some bytes, while more of them may follow.
type hashing struct {
	words words
	// block begins with the bytes that do not make a whole block yet.
	block block
	size  uint64
}

// hashed returns the hash of the bytes of all lists, one after the other. They may be long, so they are not put together before.
func hashed(lists ...[]byte) api.Sum {
	h := hashing{words: atFirst}
	for _, l := range lists {
		h.add(l)
	}
	h.add(ending(h.size))
	var s api.Sum
	for i := range s {
		s[i] = byte(h.words[i/4] >> (24 - i%4*8))
	}
	return s
}

// add takes up some bytes.
func (h *hashing) add(l []byte) {
	for len(l) > 0 {
		n := copy(h.block[h.size%64:], l)
		h.size += uint64(n)
		l = l[n:]
		if h.size%64 == 0 {
			h.words = h.words.after(h.block)
		}
	}
}

// ending returns the bytes that follow so many ones.
func ending(size uint64) []byte {
	l := []byte{128}
	for (size+uint64(len(l)))%64 != 56 {
		l = append(l, 0)
	}
	for shift := 56; shift >= 0; shift -= 8 {
		l = append(l, byte(8*size>>shift))
	}
	return l
}

// after returns the words after a block.
func (v words) after(b block) words {
	for i, x := range v.rounds(spread(b)) {
		v[i] += x
	}
	return v
}

// rounds returns what the rounds make of the words. In between, each word is a variable of its own, which takes a third of the time that new arrays in each round would.
func (v words) rounds(w [64]uint32) words {
	a, b, c, d, e, f, g, h := v[0], v[1], v[2], v[3], v[4], v[5], v[6], v[7]
	for t, n := range w {
		x := h + (rotated(6, e) ^ rotated(11, e) ^ rotated(25, e)) + ((e & f) ^ (^e & g)) + constants[t] + n
		y := (rotated(2, a) ^ rotated(13, a) ^ rotated(22, a)) + ((a & b) ^ (a & c) ^ (b & c))
		a, b, c, d, e, f, g, h = x+y, a, b, c, d+x, e, f, g
	}
	return words{a, b, c, d, e, f, g, h}
}

// spread returns the words of the block, and those that are made of them.
func spread(b block) [64]uint32 {
	var w [64]uint32
	for t := range w {
		if t < 16 {
			w[t] = uint32(b[4*t])<<24 | uint32(b[4*t+1])<<16 | uint32(b[4*t+2])<<8 | uint32(b[4*t+3])
			continue
		}
		y, z := w[t-15], w[t-2]
		w[t] = w[t-16] + w[t-7] + (rotated(7, y) ^ rotated(18, y) ^ (y >> 3)) + (rotated(17, z) ^ rotated(19, z) ^ (z >> 10))
	}
	return w
}

// rotated returns x rotated to the right by n bits.
func rotated(n int, x uint32) uint32 {
	return x>>n | x<<(32-n)
}
