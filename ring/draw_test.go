package ring_test

import (
	"bytes"
	"crypto/sha3"
	"slices"
	"testing"

	"missive/flat"
	"missive/ring"
	"missive/sha2"
)

// seeds are some: of 32 bytes, as the standard's are, and of other lengths.
func seeds() [][]byte {
	out := [][]byte{nil, {}, {0}, {255}, []byte("seed"), make([]byte, 32), bytes.Repeat([]byte{255}, 32)}
	for k := range 60 {
		out = append(out, sha2.Sum256(flat.Put32(uint32(k)), []byte("ring")))
	}
	for _, n := range []int{31, 33, 64, 133, 134, 135, 136, 165, 166, 167, 168, 169, 400} {
		out = append(out, bytes.Repeat([]byte{byte(n)}, n))
	}
	return out
}

// joined is seed and what stands behind it.
func joined(seed []byte, more ...byte) []byte { return append(slices.Clone(seed), more...) }

// picked is FIPS 203's algorithm 7 by another program's SHAKE128: the polynomial, and how many bytes it took.
func picked(b []byte) (ring.Poly, int) {
	h := sha3.NewSHAKE128()
	h.Write(b)
	var all []uint16
	taken := 0
	for len(all) < size {
		c := make([]byte, 3)
		h.Read(c)
		taken += 3
		d1, d2 := int(c[0])+256*(int(c[1])%16), int(c[1])/16+16*int(c[2])
		for _, d := range []int{d1, d2} {
			if d < q {
				all = append(all, uint16(d))
			}
		}
	}
	return ring.Poly(all[:size]), taken
}

// tossed is FIPS 203's algorithm 8 of 2, of another program's SHAKE256, digit by digit.
func tossed(b []byte) ring.Poly {
	drawn := sha3.SumSHAKE256(b, 128)
	digit := func(k int) int { return int(drawn[k/8]) >> (k % 8) & 1 }
	return of(func(i int) int {
		return digit(4*i) + digit(4*i+1) - digit(4*i+2) - digit(4*i+3)
	})
}

// P10.3

func TestUniform(t *testing.T) {
	longest := 0
	for k, seed := range seeds() {
		for _, c := range [][2]byte{{0, 0}, {0, 1}, {1, 0}, {1, 2}, {2, 1}, {2, 2}, {255, 0}, {0, 255}, {byte(k), byte(7 * k)}} {
			wanted, taken := picked(joined(seed, c[0], c[1]))
			want(t, "Uniform", ring.Uniform(seed, c[0], c[1]), wanted)
			longest = max(longest, taken)
		}
	}
	// Three blocks of SHAKE128 have 504 bytes: some have to read on.
	if longest <= 504 {
		t.Errorf("none took more than %d bytes", longest)
	}
}

// The bytes behind a seed are told apart by their place.
func TestUniformOfOthers(t *testing.T) {
	seed := sha2.Sum256([]byte("others"))
	first := ring.Uniform(seed, 1, 2)
	for what, f := range map[string]ring.Poly{
		"turned about":   ring.Uniform(seed, 2, 1),
		"another i":      ring.Uniform(seed, 0, 2),
		"another j":      ring.Uniform(seed, 1, 3),
		"another seed":   ring.Uniform(joined(seed, 0), 1, 2),
		"a shorter seed": ring.Uniform(seed[:31], 1, 2),
	} {
		if f == first {
			t.Errorf("the same: %s", what)
		}
	}
}

func TestNoise(t *testing.T) {
	for k, seed := range seeds() {
		for _, n := range []byte{0, 1, 2, 5, 128, 255, byte(k)} {
			got := ring.Noise(seed, n)
			want(t, "Noise", got, tossed(joined(seed, n)))
			for _, x := range got {
				if x > 2 && x < q-2 {
					t.Fatalf("Noise: %d", x)
				}
			}
		}
	}
}

// P10.4

func TestSeedsAreNeitherChangedNorKept(t *testing.T) {
	for _, plain := range seeds() {
		seed := roomy(plain...)
		f, g := ring.Uniform(seed, 1, 2), ring.Noise(seed, 3)
		if !bytes.Equal(whole(seed), whole(roomy(plain...))) {
			t.Fatalf("what was handed in was changed: %v", whole(seed))
		}
		fill(seed)
		want(t, "Uniform again", ring.Uniform(plain, 1, 2), f)
		want(t, "Noise again", ring.Noise(plain, 3), g)
	}
}
