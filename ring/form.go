package ring

import "missive/api"

// The greatest d: q itself has 12 binary digits.
const (
	mostSmall  = 11 // of Compress and Expand
	mostDigits = 12 // of Encode and Decode
)

// Compress is FIPS 203's Compress_d of each number, or ErrArg.
func (f Poly) Compress(d int) (Poly, api.Errno) {
	if d < 1 || d > mostSmall {
		return Poly{}, api.ErrArg
	}
	for i, x := range f {
		// q is odd: so no number lies in the middle between two.
		f[i] = low((uint32(x%q)<<d+q/2)/q, d)
	}
	return f, api.OK
}

// Expand is FIPS 203's Decompress_d of each number mod 2^d, or ErrArg.
func (f Poly) Expand(d int) (Poly, api.Errno) {
	if d < 1 || d > mostSmall {
		return Poly{}, api.ErrArg
	}
	half := uint32(1) << (d - 1)
	for i, x := range f {
		f[i] = uint16((uint32(low(uint32(x), d))*q + half) >> d)
	}
	return f, api.OK
}

// Encode is FIPS 203's ByteEncode_d, of the numbers mod 2^d (mod q of a d of 12), or ErrArg.
func (f Poly) Encode(d int) ([]byte, api.Errno) {
	if d < 1 || d > mostDigits {
		return nil, api.ErrArg
	}
	out := make([]byte, 0, len(f)/8*d)
	held, count := uint32(0), 0
	for _, x := range f {
		if d == mostDigits {
			x %= q
		}
		held |= uint32(low(uint32(x), d)) << count
		for count += d; count >= 8; count -= 8 {
			out = append(out, byte(held))
			held >>= 8
		}
	}
	return out, api.OK
}

// Decode is FIPS 203's ByteDecode_d: the one of which b is Encode of d; ErrArg, or ErrBad.
func Decode(d int, b []byte) (Poly, api.Errno) {
	if d < 1 || d > mostDigits {
		return Poly{}, api.ErrArg
	}
	var out Poly
	if len(b) != len(out)/8*d {
		return Poly{}, api.ErrBad
	}
	held, count, next := uint32(0), 0, 0
	for i := range out {
		for ; count < d; count += 8 {
			held |= uint32(b[next]) << count
			next++
		}
		out[i] = low(held, d)
		held >>= d
		count -= d
	}
	// Only of 12 digits are there numbers that are no remainder by q.
	if !out.May() {
		return Poly{}, api.ErrBad
	}
	return out, api.OK
}

// low is x mod 2^d; d is 16 at most.
func low(x uint32, d int) uint16 { return uint16(x & (1<<d - 1)) }
