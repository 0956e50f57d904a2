package sha3_test

import (
	other "crypto/sha3"
	"testing"

	"missive/flat"
	"missive/sha3"
)

// cube is a state bit by bit, that of lane x, y at z, as FIPS 202, 3.1 has it.
type cube [5][5][64]bool

// cubeOf is the bits of lanes.
func cubeOf(lanes [25]uint64) cube {
	var a cube
	for x := range 5 {
		for y := range 5 {
			for z := range 64 {
				a[x][y][z] = lanes[x+5*y]>>z&1 == 1
			}
		}
	}
	return a
}

// lanes is a cube's lanes.
func (a cube) lanes() [25]uint64 {
	var out [25]uint64
	for x := range 5 {
		for y := range 5 {
			for z := range 64 {
				if a[x][y][z] {
					out[x+5*y] |= 1 << z
				}
			}
		}
	}
	return out
}

// each is the cube of what f tells of all places.
func each(f func(x, y, z int) bool) cube {
	var out cube
	for x := range 5 {
		for y := range 5 {
			for z := range 64 {
				out[x][y][z] = f(x, y, z)
			}
		}
	}
	return out
}

// theta, rho, pi, chi, mark are FIPS 202's algorithms 1 to 4 and 6, word for word.
func (a cube) theta() cube {
	column := func(x, z int) bool {
		odd := false
		for y := range 5 {
			odd = odd != a[x%5][y][z%64]
		}
		return odd
	}
	return each(func(x, y, z int) bool { return a[x][y][z] != (column(x+4, z) != column(x+1, z+63)) })
}

func (a cube) rho() cube {
	out := a
	x, y := 1, 0
	for t := range 24 {
		for z := range 64 {
			out[x][y][z] = a[x][y][(z+64*6-(t+1)*(t+2)/2)%64]
		}
		x, y = y, (2*x+3*y)%5
	}
	return out
}

func (a cube) pi() cube {
	return each(func(x, y, z int) bool { return a[(x+3*y)%5][x][z] })
}

func (a cube) chi() cube {
	return each(func(x, y, z int) bool { return a[x][y][z] != (!a[(x+1)%5][y][z] && a[(x+2)%5][y][z]) })
}

func (a cube) mark(round int) cube {
	for j := range 7 {
		z := 1<<j - 1
		a[0][0][z] = a[0][0][z] != drawn(j+7*round)
	}
	return a
}

// drawn is FIPS 202's algorithm 5: a bit of a register that feeds back.
func drawn(t int) bool {
	r := byte(1)
	for range t % 255 {
		high := r >> 7
		r <<= 1
		if high == 1 {
			r ^= 0x71
		}
	}
	return r&1 == 1
}

// bitwise is the permutation by the bits.
func bitwise(lanes [25]uint64) [25]uint64 {
	a := cubeOf(lanes)
	for round := range 24 {
		a = a.theta().rho().pi().chi().mark(round)
	}
	return a.lanes()
}

// wantLanes fails where got has other lanes.
func wantLanes(t *testing.T, what string, got, wanted [25]uint64) {
	t.Helper()
	if got != wanted {
		t.Fatalf("%s:\n got %x\nwant %x", what, got, wanted)
	}
}

// P3.1

func TestPublishedPermutation(t *testing.T) {
	once := sha3.Permute([25]uint64{})
	wantLanes(t, "of noughts", once, [25]uint64{
		0xf1258f7940e1dde7, 0x84d5ccf933c0478a, 0xd598261ea65aa9ee, 0xbd1547306f80494d, 0x8b284e056253d057,
		0xff97a42d7f8e6fd4, 0x90fee5a0a44647c4, 0x8c5bda0cd6192e76, 0xad30a6f71b19059c, 0x30935ab7d08ffc64,
		0xeb5aa93f2317d635, 0xa9a6e6260d712103, 0x81a57c16dbcf555f, 0x43b831cd0347c826, 0x01f22f1a11a5569f,
		0x05e5635a21d9ae61, 0x64befef28cc970f2, 0x613670957bc46611, 0xb87c5a554fd00ecb, 0x8c3ee88a1ccf32c8,
		0x940c7922ae3a2614, 0x1841f924a2c509e4, 0x16f53526e70465c2, 0x75f644e97f30a13b, 0xeaf1ff7b5ceca249,
	})
	wantLanes(t, "of that", sha3.Permute(once), bitwise(once))
}

func TestPermutationOfManyStates(t *testing.T) {
	var all [25]uint64
	for i := range all {
		all[i] = ^uint64(0)
	}
	wantLanes(t, "of ones", sha3.Permute(all), bitwise(all))
	for i := range all {
		var one, wide [25]uint64
		one[i] = 1 << (i * 5 % 64)
		wide[i] = 0x0123456789abcdef * uint64(2*i+1)
		wantLanes(t, "of one bit", sha3.Permute(one), bitwise(one))
		wantLanes(t, "of one lane", sha3.Permute(wide), bitwise(wide))
	}
	s := [25]uint64{5: 77}
	for range 20 {
		next := sha3.Permute(s)
		wantLanes(t, "of what the last told", next, bitwise(s))
		s = next
	}
}

// What another program reads first is the lanes behind the permutation of all that it took in, as long as that is one block.
func TestPermutationIsThatOfTheSum(t *testing.T) {
	b := text(135, 9)
	var s [25]uint64
	for i, x := range append(b, 0x9f) {
		s[i/8] |= uint64(x) << (i % 8 * 8)
	}
	var got []byte
	for _, lane := range sha3.Permute(s) {
		got = append(got, flat.Little64(lane)...)
	}
	want(t, "the first block", got[:136], other.SumSHAKE256(b, 136))
}

func TestPermutationHangsOnItsArgumentAlone(t *testing.T) {
	s := [25]uint64{1, 2, 3}
	first := sha3.Permute(s)
	wantLanes(t, "what was handed in", s, [25]uint64{1, 2, 3})
	sha3.Permute([25]uint64{4})
	wantLanes(t, "the same again", sha3.Permute(s), first)
}
