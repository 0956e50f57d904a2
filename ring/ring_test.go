package ring_test

import (
	"testing"

	"missive/flat"
	"missive/ring"
	"missive/sha2"
)

// q is FIPS 203's.
const q = 3329

// size is how many numbers a polynomial has.
const size = 256

// mod is n mod q, of any n.
func mod(n int) int { return (n%q + q) % q }

// of is the polynomial of what f tells of all places, mod q.
func of(f func(i int) int) ring.Poly {
	var out ring.Poly
	for i := range out {
		out[i] = uint16(mod(f(i)))
	}
	return out
}

// reduced is f with all numbers mod q.
func reduced(f ring.Poly) ring.Poly { return of(func(i int) int { return int(f[i]) }) }

// one is x^place, n times.
func one(place int, n uint16) ring.Poly {
	var out ring.Poly
	out[place] = n
	return out
}

// same is one with n at all places.
func same(n uint16) ring.Poly {
	var out ring.Poly
	for i := range out {
		out[i] = n
	}
	return out
}

// drawn has numbers that look like chance, of whatever 16 digits, others for each k.
func drawn(k int) ring.Poly {
	var out ring.Poly
	for i := range out {
		out[i] = uint16(flat.Get32(sha2.Sum256(flat.Put32(uint32(k)), flat.Put32(uint32(i)))))
	}
	return out
}

// run is the k-th 256 of all numbers of 16 digits.
func run(k int) ring.Poly {
	var out ring.Poly
	for i := range out {
		out[i] = uint16(size*k + i)
	}
	return out
}

// polys are some: those at the edges of q and of 16 digits, each power of x, and many between.
func polys() []ring.Poly {
	var out []ring.Poly
	for _, n := range []uint16{0, 1, 2, q/2 - 1, q / 2, q/2 + 1, q - 1, q, q + 1, 4095, 4096, 19*q - 1, 19 * q, 65534, 65535} {
		out = append(out, same(n))
	}
	for i := range size {
		out = append(out, one(i, 1), one(i, q-1))
	}
	for k := range 30 {
		out = append(out, drawn(k), reduced(drawn(1000+k)))
	}
	return out
}

// root is 17^k mod q.
func root(k int) int {
	out := 1
	for range k {
		out = mod(17 * out)
	}
	return out
}

// turned is i's seven digits the other way about.
func turned(i int) int {
	out := 0
	for k := range 7 {
		if i&(1<<k) != 0 {
			out += 64 >> k
		}
	}
	return out
}

// squares is what x^2 is in each of the 128 pairs, by FIPS 203, 4.3.
func squares() []int {
	out := make([]int, size/2)
	for i := range out {
		out[i] = root(2*turned(i) + 1)
	}
	return out
}

// transform is f's remainders by x^2 less each of the squares, by their meaning.
func transform(f ring.Poly) ring.Poly {
	var out ring.Poly
	for i, square := range squares() {
		low, high, power := 0, 0, 1
		for k := 0; k < size; k += 2 {
			low, high = mod(low+int(f[k])*power), mod(high+int(f[k+1])*power)
			power = mod(power * square)
		}
		out[2*i], out[2*i+1] = uint16(low), uint16(high)
	}
	return out
}

// inPairs is f times g, pair by pair, by its meaning.
func inPairs(f, g ring.Poly) ring.Poly {
	var out ring.Poly
	for i, square := range squares() {
		a, b, c, d := int(f[2*i]), int(f[2*i+1]), int(g[2*i]), int(g[2*i+1])
		out[2*i] = uint16(mod(a*c + mod(b*d)*square))
		out[2*i+1] = uint16(mod(a*d + b*c))
	}
	return out
}

// product is f times g mod x^256 + 1, number by number.
func product(f, g ring.Poly) ring.Poly {
	var sums [size]int
	for i, a := range f {
		for j, b := range g {
			n := int(a) * int(b)
			if i+j >= size {
				n = -n
			}
			sums[(i+j)%size] = mod(sums[(i+j)%size] + n)
		}
	}
	return of(func(i int) int { return sums[i] })
}

// want fails where got is not wanted, number by number, or may not be.
func want(t *testing.T, what string, got, wanted ring.Poly) {
	t.Helper()
	if got != wanted {
		t.Fatalf("%s:\n got %v\nwant %v", what, got, wanted)
	}
	if !got.May() {
		t.Fatalf("%s may not be", what)
	}
}

// P10.1

func TestAddAndSub(t *testing.T) {
	l := polys()
	for i, f := range l {
		for _, g := range []ring.Poly{l[0], f, l[(i*7+3)%len(l)], l[len(l)-1-i], same(65535), same(q)} {
			want(t, "Add", f.Add(g), of(func(i int) int { return int(f[i]) + int(g[i]) }))
			want(t, "Sub", f.Sub(g), of(func(i int) int { return int(f[i]) - int(g[i]) }))
		}
	}
}

// All that 16 digits hold, beside each other.
func TestAllNumbers(t *testing.T) {
	for k := range size {
		f, g := run(k), run(size-1-k)
		want(t, "Add", f.Add(g), of(func(i int) int { return int(f[i]) + int(g[i]) }))
		want(t, "Sub", f.Sub(g), of(func(i int) int { return int(f[i]) - int(g[i]) }))
		want(t, "NTT", f.NTT(), reduced(f).NTT())
		want(t, "Inverse", f.Inverse(), reduced(f).Inverse())
		want(t, "Mul", f.Mul(g), inPairs(f, g))
	}
}

func TestNTT(t *testing.T) {
	for _, f := range polys() {
		want(t, "NTT", f.NTT(), transform(f))
	}
}

// The first and the last of the numbers that FIPS 203 writes out, in its appendix A.
func TestPublishedRoots(t *testing.T) {
	got := one(2, 1).NTT()
	for i, wanted := range []int{17, -17, 2761, -2761, 583, -583, 2649, -2649} {
		if int(got[2*i]) != mod(wanted) || got[2*i+1] != 0 {
			t.Errorf("pair %d: %d, %d", i, got[2*i], got[2*i+1])
		}
	}
	want(t, "x^128", one(128, 1).NTT(), of(func(i int) int {
		return (1 - i%2) * (1 - i/128*2) * 1729
	}))
}

func TestInverse(t *testing.T) {
	for _, f := range polys() {
		want(t, "NTT of Inverse", transform(f.Inverse()), reduced(f))
	}
}

func TestMul(t *testing.T) {
	l := polys()
	for i, f := range l {
		for _, g := range []ring.Poly{l[0], f, l[(i*7+3)%len(l)], l[len(l)-1-i], same(65535), same(q - 1)} {
			want(t, "Mul", f.Mul(g), inPairs(f, g))
		}
	}
}

func TestMay(t *testing.T) {
	for _, f := range []ring.Poly{{}, same(1), same(q - 1), run(0), run(12), one(0, q-1), one(255, q-1)} {
		if !f.May() {
			t.Errorf("%v may not be", f)
		}
	}
	for i := range size {
		for _, n := range []uint16{q, q + 1, 4095, 4096, 2 * q, 32768, 65535} {
			if f := one(i, n); f.May() {
				t.Errorf("%v may be", f)
			}
			f := same(q - 1)
			f[i] = n
			if f.May() {
				t.Errorf("%v may be", f)
			}
		}
	}
	if run(13).May() {
		t.Error("3328 to 3583 may be")
	}
}

// P10.4

func TestInverseOfNTT(t *testing.T) {
	for _, f := range polys() {
		want(t, "Inverse of NTT", f.NTT().Inverse(), reduced(f))
		want(t, "NTT of Inverse", f.Inverse().NTT(), reduced(f))
	}
}

func TestProduct(t *testing.T) {
	l := polys()
	for i := 0; i < len(l); i += 3 {
		f, g := l[i], l[(i*7+3)%len(l)]
		want(t, "Inverse of Mul", f.NTT().Mul(g.NTT()).Inverse(), product(f, g))
	}
	want(t, "x^255 times x", one(255, 1).NTT().Mul(one(1, 1).NTT()).Inverse(), one(0, q-1))
	want(t, "x^128 times itself", one(128, 1).NTT().Mul(one(128, 1).NTT()).Inverse(), one(0, q-1))
}

func TestNothingIsChanged(t *testing.T) {
	f, g := drawn(1), drawn(2)
	f.Add(g)
	f.Sub(g)
	f.NTT()
	f.Inverse()
	f.Mul(g)
	f.May()
	for d := range 14 {
		f.Compress(d)
		f.Expand(d)
		f.Encode(d)
	}
	if f != drawn(1) || g != drawn(2) {
		t.Error("what was handed in was changed")
	}
}

// A row of polynomials, as the layers above go over it.

// each is what f tells of all of l.
func each(l []ring.Poly, f func(ring.Poly) ring.Poly) []ring.Poly {
	var out []ring.Poly
	for _, p := range l {
		out = append(out, f(p))
	}
	return out
}

// both is what f tells of k's and l's, place by place.
func both(k, l []ring.Poly, f func(a, b ring.Poly) ring.Poly) []ring.Poly {
	var out []ring.Poly
	for i, p := range l {
		out = append(out, f(k[i], p))
	}
	return out
}

// folded is all of l laid on each other by f.
func folded(l []ring.Poly, f func(a, b ring.Poly) ring.Poly) ring.Poly {
	var out ring.Poly
	for _, p := range l {
		out = f(out, p)
	}
	return out
}

func TestRows(t *testing.T) {
	row := polys()
	wanted := of(func(i int) int {
		sum := 0
		for _, f := range row {
			sum += int(f[i])
		}
		return sum
	})
	want(t, "the sum", folded(row, ring.Poly.Add), wanted)
	want(t, "the sum of the NTTs", folded(each(row, ring.Poly.NTT), ring.Poly.Add), wanted.NTT())
	want(t, "and back", folded(each(each(row, ring.Poly.NTT), ring.Poly.Inverse), ring.Poly.Add), wanted)
	want(t, "without itself", folded(both(row, row, ring.Poly.Sub), ring.Poly.Add), ring.Poly{})
}
