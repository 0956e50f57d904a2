package sha2

import (
	"math/bits"

	"missive/flat"
)

// word is what a state is made of: 32 bits in SHA-256, 64 in SHA-512.
type word interface{ uint32 | uint64 }

// press256 is the state behind one more block, by FIPS 180-4, 6.2.2.
func press256(state [8]uint32, block [block256]byte) [8]uint32 {
	roots := cubeRoots()
	a, b, c, d, e, f, g, h := all(state)
	for i, x := range spread256(block) {
		first, fifth := turn32(a, 2, 13, 22), turn32(e, 6, 11, 25)
		x += h + fifth + choose(e, f, g) + uint32(roots[i]>>32)
		a, b, c, d, e, f, g, h = x+first+most(a, b, c), a, b, c, d+x, e, f, g
	}
	return plus(state, [8]uint32{a, b, c, d, e, f, g, h})
}

// press512 is the state behind one more block, by FIPS 180-4, 6.4.2.
func press512(state [8]uint64, block [block512]byte) [8]uint64 {
	roots := cubeRoots()
	a, b, c, d, e, f, g, h := all(state)
	for i, x := range spread512(block) {
		first, fifth := turn64(a, 28, 34, 39), turn64(e, 14, 18, 41)
		x += h + fifth + choose(e, f, g) + roots[i]
		a, b, c, d, e, f, g, h = x+first+most(a, b, c), a, b, c, d+x, e, f, g
	}
	return plus(state, [8]uint64{a, b, c, d, e, f, g, h})
}

// spread256 is the words of a block, and those that follow from them: one a round.
func spread256(block [block256]byte) [64]uint32 {
	var w [64]uint32
	for i := range 16 {
		w[i] = flat.Get32(block[4*i:])
	}
	for i := 16; i < len(w); i++ {
		x, y := w[i-15], w[i-2]
		low := bits.RotateLeft32(x, -7) ^ bits.RotateLeft32(x, -18) ^ x>>3
		high := bits.RotateLeft32(y, -17) ^ bits.RotateLeft32(y, -19) ^ y>>10
		w[i] = high + w[i-7] + low + w[i-16]
	}
	return w
}

// spread512 is the words of a block, and those that follow from them: one a round.
func spread512(block [block512]byte) [80]uint64 {
	var w [80]uint64
	for i := range 16 {
		w[i] = flat.Get64(block[8*i:])
	}
	for i := 16; i < len(w); i++ {
		x, y := w[i-15], w[i-2]
		low := bits.RotateLeft64(x, -1) ^ bits.RotateLeft64(x, -8) ^ x>>7
		high := bits.RotateLeft64(y, -19) ^ bits.RotateLeft64(y, -61) ^ y>>6
		w[i] = high + w[i-7] + low + w[i-16]
	}
	return w
}

// turn32 is x turned right by i, by j and by k bits, the one over the other.
func turn32(x uint32, i, j, k int) uint32 {
	return bits.RotateLeft32(x, -i) ^ bits.RotateLeft32(x, -j) ^ bits.RotateLeft32(x, -k)
}

// turn64 is x turned right by i, by j and by k bits, the one over the other.
func turn64(x uint64, i, j, k int) uint64 {
	return bits.RotateLeft64(x, -i) ^ bits.RotateLeft64(x, -j) ^ bits.RotateLeft64(x, -k)
}

// all is the eight words of a state.
func all[W word](s [8]W) (a, b, c, d, e, f, g, h W) {
	return s[0], s[1], s[2], s[3], s[4], s[5], s[6], s[7]
}

// plus is s and t, word by word.
func plus[W word](s, t [8]W) [8]W {
	for i, x := range t {
		s[i] += x
	}
	return s
}

// choose takes each bit from f where e has it, from g elsewhere.
func choose[W word](e, f, g W) W { return e&f ^ ^e&g }

// most is, bit by bit, what two at least of the three have.
func most[W word](a, b, c W) W { return a&b ^ a&c ^ b&c }
