package ring

import (
	"math/bits"

	"missive/sha3"
)

// noiseSize is how many bytes Noise draws: four digits a number.
const noiseSize = 128

// mostDraws is how many draws of two numbers Uniform makes at most. The standard asks for as many as it takes, and allows a bound of 280 or more (appendix B): this one is so high that no argument is known that comes to it.
const mostDraws = 1 << 16

// Uniform is FIPS 203's SampleNTT of seed, i and j, one behind the other.
func Uniform(seed []byte, i, j byte) Poly {
	return filled(sha3.NewReader(seed, []byte{i, j}).Read)
}

// filled is the first numbers below q of what read draws; where the draws are over first, those that are wanting are 0.
func filled(read func(n int) []byte) Poly {
	var out Poly
	count := 0
	for range mostDraws {
		for _, x := range pair(read(3)) {
			// All numbers below q are as likely only if those above are passed over.
			if x < q {
				out[count] = x
				count++
			}
			if count == len(out) {
				return out
			}
		}
	}
	return out
}

// pair is the two numbers of 12 digits that stand in three bytes.
func pair(b []byte) [2]uint16 {
	x, y, z := uint16(b[0]), uint16(b[1]), uint16(b[2])
	return [2]uint16{x | y&15<<8, y>>4 | z<<4}
}

// Noise is FIPS 203's SamplePolyCBD_2 of its PRF_2 of seed and n.
func Noise(seed []byte, n byte) Poly {
	b := sha3.Shake256(noiseSize, seed, []byte{n})
	var out Poly
	for i := range out {
		digits := b[i/2] >> (i % 2 * 4)
		out[i] = difference(ones(digits&3), ones(digits>>2&3))
	}
	return out
}

// ones is how many binary digits of b are 1.
func ones(b byte) uint16 { return uint16(bits.OnesCount8(b)) }
