package sha3

import "math/bits"

// state is Keccak's 25 lanes: that of column x and row y stands at x + 5 y.
type state [25]uint64

// turns is by how many bits rho turns each lane.
var turns = [25]int{
	0, 1, 62, 28, 27,
	36, 44, 6, 55, 20,
	3, 10, 43, 25, 39,
	41, 45, 15, 21, 8,
	18, 2, 61, 56, 14,
}

// sources is where pi takes the lane of each place from: for x and y the one at x + 3 y (mod 5) and x.
var sources = [25]int{
	0, 6, 12, 18, 24,
	3, 9, 10, 16, 22,
	1, 7, 13, 19, 20,
	4, 5, 11, 17, 23,
	2, 8, 14, 15, 21,
}

// marks is what iota lays over the first lane, a number a round.
var marks = [24]uint64{
	0x0000000000000001, 0x0000000000008082, 0x800000000000808a, 0x8000000080008000,
	0x000000000000808b, 0x0000000080000001, 0x8000000080008081, 0x8000000000008009,
	0x000000000000008a, 0x0000000000000088, 0x0000000080008009, 0x000000008000000a,
	0x000000008000808b, 0x800000000000008b, 0x8000000000008089, 0x8000000000008003,
	0x8000000000008002, 0x8000000000000080, 0x000000000000800a, 0x800000008000000a,
	0x8000000080008081, 0x8000000000008080, 0x0000000080000001, 0x8000000080008008,
}

// Permute is Keccak-f[1600], by FIPS 202, 3.3: the lane of column x and row y stands at x + 5 y.
func Permute(s [25]uint64) [25]uint64 {
	lanes := state(s)
	for _, mark := range marks {
		for _, step := range steps() {
			step(&lanes)
		}
		// This is iota: it alone is another one in each round.
		lanes[0] ^= mark
	}
	return lanes
}

// steps is the steps that all rounds have in common, in their order.
func steps() [4]func(*state) {
	return [4]func(*state){(*state).theta, (*state).rho, (*state).pi, (*state).chi}
}

// theta lays over each lane the column on its left, and the one on its right turned by a bit.
func (s *state) theta() {
	a, b, c, d, e := s.column(0), s.column(1), s.column(2), s.column(3), s.column(4)
	s.lay(0, e^bits.RotateLeft64(b, 1))
	s.lay(1, a^bits.RotateLeft64(c, 1))
	s.lay(2, b^bits.RotateLeft64(d, 1))
	s.lay(3, c^bits.RotateLeft64(e, 1))
	s.lay(4, d^bits.RotateLeft64(a, 1))
}

// column is the lanes of column x, the one over the other.
func (s *state) column(x int) uint64 { return s[x] ^ s[x+5] ^ s[x+10] ^ s[x+15] ^ s[x+20] }

// lay lays b over each lane of column x.
func (s *state) lay(x int, b uint64) {
	for i := x; i < len(s); i += 5 {
		s[i] ^= b
	}
}

// rho turns each lane by a count of its own.
func (s *state) rho() {
	for i, n := range turns {
		s[i] = bits.RotateLeft64(s[i], n)
	}
}

// pi puts each lane at another place.
func (s *state) pi() {
	old := *s
	for i, from := range sources {
		s[i] = old[from]
	}
}

// chi turns about each bit that has a nought on its right in the row, and a one behind that.
func (s *state) chi() {
	for i := 0; i < len(s); i += 5 {
		a, b, c, d, e := s[i], s[i+1], s[i+2], s[i+3], s[i+4]
		s[i] = a ^ ^b&c
		s[i+1] = b ^ ^c&d
		s[i+2] = c ^ ^d&e
		s[i+3] = d ^ ^e&a
		s[i+4] = e ^ ^a&b
	}
}
