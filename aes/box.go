package aes

import "math/bits"

// reducer is FIPS 197's x^8 + x^4 + x^3 + x + 1 without x^8: what a bit counts that was pushed out of a byte.
const reducer = 0x1b

// boxConstant is what the S-box lays over a byte last.
const boxConstant = 0x63

// boxes is FIPS 197's S-box of every byte.
func boxes() [256]byte {
	powers := powersOfThree()
	var out [256]byte
	// 0 has no inverse, and counts as its own.
	out[0] = spread(0)
	for i, x := range powers {
		out[x] = spread(powers[len(powers)-1-i])
	}
	return out
}

// powersOfThree is 3^0 to 3^255: every number but 0, and 1 once more, so that the inverse of each stands as far from the end as it from the beginning.
func powersOfThree() [256]byte {
	var out [256]byte
	x := byte(1)
	for i := range out {
		out[i] = x
		x ^= double(x)
	}
	return out
}

// spread is FIPS 197's affine transformation of x.
func spread(x byte) byte {
	out := x ^ boxConstant
	for k := 1; k <= 4; k++ {
		out ^= bits.RotateLeft8(x, k)
	}
	return out
}

// double is x times 2.
func double(x byte) byte { return x<<1 ^ (x>>7)*reducer }
