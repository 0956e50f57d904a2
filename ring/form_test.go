package ring_test

import (
	"bytes"
	"math"
	"math/big"
	"slices"
	"testing"

	"missive/api"
	"missive/flat"
	"missive/ring"
)

// outside are no d of any call.
var outside = []int{0, -1, -2, -8, 13, 14, 16, 32, 64, 256, 257, 268, math.MinInt, math.MinInt + 1, math.MaxInt, math.MaxInt32, math.MinInt32}

// told fails where e is not wanted.
func told(t *testing.T, what string, e, wanted api.Errno) {
	t.Helper()
	if e != wanted {
		t.Fatalf("%s: got %d, want %d", what, e, wanted)
	}
}

// encoded is Encode of a d that may be.
func encoded(t *testing.T, f ring.Poly, d int) []byte {
	t.Helper()
	b, e := f.Encode(d)
	told(t, "Encode", e, api.OK)
	return b
}

// compressed is Compress of a d that may be.
func compressed(t *testing.T, f ring.Poly, d int) ring.Poly {
	t.Helper()
	out, e := f.Compress(d)
	told(t, "Compress", e, api.OK)
	return out
}

// expanded is Expand of a d that may be.
func expanded(t *testing.T, f ring.Poly, d int) ring.Poly {
	t.Helper()
	out, e := f.Expand(d)
	told(t, "Expand", e, api.OK)
	return out
}

// decoded is Decode of bytes that are right.
func decoded(t *testing.T, d int, b []byte) ring.Poly {
	t.Helper()
	out, e := ring.Decode(d, b)
	told(t, "Decode", e, api.OK)
	return out
}

// digits is the numbers of f mod 2^d, or mod q of a d of 12, as one great number of d digits each: its bytes, the least first.
func digits(f ring.Poly, d int) []byte {
	sum := new(big.Int)
	for i, x := range f {
		n := int(x) % (1 << d)
		if d == 12 {
			n = int(x) % q
		}
		sum.Add(sum, new(big.Int).Lsh(big.NewInt(int64(n)), uint(i*d)))
	}
	out := sum.FillBytes(make([]byte, 32*d))
	slices.Reverse(out)
	return out
}

// roomy is b with spare room behind it that a careless append would write to.
func roomy(b ...byte) []byte {
	return append(slices.Clone(b), 201, 202, 203, 204, 205, 206, 207, 208)[: len(b) : len(b)+8]
}

// whole is b with its spare room.
func whole(b []byte) []byte { return b[:cap(b)] }

// fill overwrites b and its spare room.
func fill(b []byte) {
	for i := range whole(b) {
		whole(b)[i] = 99
	}
}

// P10.2

// Of all numbers of 16 digits.
func TestCompress(t *testing.T) {
	for d := 1; d <= 11; d++ {
		for k := range size {
			f := run(k)
			want(t, "Compress", compressed(t, f, d), of(func(i int) int {
				// No number lies in the middle, and none so near to it that a float would not tell.
				return int(math.Round(float64(int(f[i])%q)*float64(int(1)<<d)/q)) % (1 << d)
			}))
		}
	}
}

// Of all numbers of 16 digits.
func TestExpand(t *testing.T) {
	for d := 1; d <= 11; d++ {
		for k := range size {
			f := run(k)
			want(t, "Expand", expanded(t, f, d), of(func(i int) int {
				// The middle between two goes up: a float holds it whole.
				return int(math.Round(q * float64(int(f[i])%(1<<d)) / float64(int(1)<<d)))
			}))
		}
	}
}

func TestCompressedNumbers(t *testing.T) {
	f := ring.Poly{0, 832, 833, 2496, 2497, 3328, q, q + 832, q + 833}
	want(t, "Compress(1)", compressed(t, f, 1), ring.Poly{0, 0, 1, 1, 0, 0, 0, 0, 1})
	want(t, "Compress(11)", compressed(t, ring.Poly{0, 1, 2, 3327, 3328}, 11), ring.Poly{0, 1, 1, 2047, 2047})
	want(t, "Compress(10)", compressed(t, ring.Poly{0, 1, 2, 3327, 3328}, 10), ring.Poly{0, 0, 1, 1023, 0})
	want(t, "Expand(1)", expanded(t, ring.Poly{0, 1, 2, 3, q, 65535}, 1), ring.Poly{0, 1665, 0, 1665, 1665, 1665})
	want(t, "Expand(11)", expanded(t, ring.Poly{0, 1, 1024, 2047, 2048, 2049}, 11), ring.Poly{0, 2, 1665, 3327, 0, 2})
}

// FIPS 203, 4.2.1: what was expanded comes back; what was compressed is nearly what it was.
func TestCompressAndExpand(t *testing.T) {
	for d := 1; d <= 11; d++ {
		for k := range size {
			f := run(k)
			small := of(func(i int) int { return int(f[i]) % (1 << d) })
			want(t, "Compress of Expand", compressed(t, expanded(t, f, d), d), small)
			for _, x := range expanded(t, compressed(t, f, d), d).Sub(f) {
				if far := min(int(x), q-int(x)); far > (q+1<<d)/(2<<d) {
					t.Fatalf("Expand of Compress, d %d: %d off", d, far)
				}
			}
		}
	}
}

func TestEncode(t *testing.T) {
	for d := 1; d <= 12; d++ {
		for _, f := range polys() {
			b := encoded(t, f, d)
			if !bytes.Equal(b, digits(f, d)) {
				t.Fatalf("Encode(%d) of %v: %s", d, f, flat.Hex(b))
			}
		}
		for k := range size {
			if !bytes.Equal(encoded(t, run(k), d), digits(run(k), d)) {
				t.Fatalf("Encode(%d) of numbers from %d on", d, size*k)
			}
		}
	}
	if b := encoded(t, one(0, 1), 1); !bytes.Equal(b, append([]byte{1}, make([]byte, 31)...)) {
		t.Errorf("the chapter's example: %s", flat.Hex(b))
	}
	if b := encoded(t, ring.Poly{1, 0x302, q}, 12); !bytes.Equal(b[:5], []byte{0x01, 0x20, 0x30, 0, 0}) {
		t.Errorf("three numbers of 12 digits: %s", flat.Hex(b))
	}
	// 3329 is 2^10 and more, twice: it counts mod q of 12 digits alone.
	if b := encoded(t, one(0, q), 11); b[0] != 1 || b[1] != 5 {
		t.Errorf("q in 11 digits: %s", flat.Hex(b))
	}
}

func TestDecode(t *testing.T) {
	for d := 1; d <= 12; d++ {
		for _, f := range polys() {
			wanted := reduced(f)
			if d < 12 {
				wanted = of(func(i int) int { return int(f[i]) % (1 << d) })
			}
			b := digits(f, d)
			got := decoded(t, d, b)
			want(t, "Decode", got, wanted)
			if again := encoded(t, got, d); !bytes.Equal(again, b) {
				t.Fatalf("Encode of Decode, d %d: %s", d, flat.Hex(again))
			}
		}
	}
	for d := 1; d <= 11; d++ {
		want(t, "Decode of ones", decoded(t, d, bytes.Repeat([]byte{255}, 32*d)), same(1<<d-1))
	}
}

// refused fails where Decode takes b, or tells another error or a polynomial beside it.
func refused(t *testing.T, d int, b []byte, wanted api.Errno) {
	t.Helper()
	if f, e := ring.Decode(d, b); e != wanted || f != (ring.Poly{}) {
		t.Errorf("Decode(%d) of %d bytes: %d, %v", d, len(b), e, f)
	}
}

func TestDecodeOfOtherLengths(t *testing.T) {
	for d := 1; d <= 12; d++ {
		refused(t, d, nil, api.ErrBad)
		for _, n := range []int{0, 1, 31, 32*d - 32, 32*d - 1, 32*d + 1, 32*d + 32, 1000} {
			if n != 32*d {
				refused(t, d, make([]byte, n), api.ErrBad)
				refused(t, d, bytes.Repeat([]byte{255}, n), api.ErrBad)
			}
		}
		refused(t, d, make([]byte, 400)[:32*d-1], api.ErrBad)
	}
}

// Of 12 digits each number of q or more is refused, wherever it stands.
func TestDecodeOfGreatNumbers(t *testing.T) {
	number := func(rest, n, place int) []byte {
		sum := new(big.Int)
		for i := range size {
			x := rest
			if i == place {
				x = n
			}
			sum.Add(sum, new(big.Int).Lsh(big.NewInt(int64(x)), uint(12*i)))
		}
		out := sum.FillBytes(make([]byte, 384))
		slices.Reverse(out)
		return out
	}
	for place := range size {
		for _, n := range []int{q, q + 1, q + 255, 4094, 4095} {
			refused(t, 12, number(0, n, place), api.ErrBad)
			refused(t, 12, number(q-1, n, place), api.ErrBad)
		}
		want(t, "q - 1", decoded(t, 12, number(0, q-1, place)), one(place, q-1))
	}
	for n := range 4096 {
		if n >= q {
			refused(t, 12, number(0, n, n%size), api.ErrBad)
		} else {
			want(t, "below q", decoded(t, 12, number(0, n, n%size)), one(n%size, uint16(n)))
		}
	}
}

func TestOtherDigits(t *testing.T) {
	for _, f := range []ring.Poly{{}, same(q - 1), drawn(3)} {
		for _, d := range append(slices.Clone(outside), 12) {
			if p, e := f.Compress(d); e != api.ErrArg || p != (ring.Poly{}) {
				t.Errorf("Compress(%d): %d, %v", d, e, p)
			}
			if p, e := f.Expand(d); e != api.ErrArg || p != (ring.Poly{}) {
				t.Errorf("Expand(%d): %d, %v", d, e, p)
			}
		}
		for _, d := range outside {
			if b, e := f.Encode(d); e != api.ErrArg || len(b) != 0 {
				t.Errorf("Encode(%d): %d, %s", d, e, flat.Hex(b))
			}
		}
	}
	// The d is looked at ahead of the bytes, be they as many as it would ask for, or not.
	for _, d := range outside {
		for _, n := range []int{0, 1, 32, 384, 416, 448} {
			refused(t, d, make([]byte, n), api.ErrArg)
			refused(t, d, bytes.Repeat([]byte{255}, n), api.ErrArg)
		}
		refused(t, d, nil, api.ErrArg)
	}
}

// P10.4

func TestBytesAreNeitherChangedNorKept(t *testing.T) {
	for d := range 14 {
		plain := bytes.Repeat([]byte{7}, 32*d)
		b := roomy(plain...)
		f, _ := ring.Decode(d, b)
		if !bytes.Equal(whole(b), whole(roomy(plain...))) {
			t.Fatalf("Decode(%d) changed what was handed in", d)
		}
		kept := f
		fill(b)
		if f != kept {
			t.Errorf("Decode(%d) kept what was handed in", d)
		}
	}
}

func TestBytesAreNewMemory(t *testing.T) {
	f := drawn(5)
	for d := 1; d <= 12; d++ {
		first, second := encoded(t, f, d), encoded(t, f, d)
		fill(first)
		if !bytes.Equal(second, digits(f, d)) || !bytes.Equal(encoded(t, f, d), second) {
			t.Errorf("Encode(%d), behind a change of the first: %s", d, flat.Hex(second))
		}
	}
}
