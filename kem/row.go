package kem

import (
	"missive/api"
	"missive/ring"
)

// rank is how many polynomials a row of ML-KEM-768 has.
const rank = 3

// row is a row of polynomials.
type row [rank]ring.Poly

// each is f of each polynomial.
func (a row) each(f func(ring.Poly) ring.Poly) row {
	for i, p := range a {
		a[i] = f(p)
	}
	return a
}

// both is f of the two polynomials at each place.
func (a row) both(b row, f func(p, q ring.Poly) ring.Poly) row {
	for i, p := range a {
		a[i] = f(p, b[i])
	}
	return a
}

// folded is f of all of them, from the first one on.
func (a row) folded(f func(p, q ring.Poly) ring.Poly) ring.Poly {
	out := a[0]
	for _, p := range a[1:] {
		out = f(out, p)
	}
	return out
}

// inner is the sum of the products of two rows of NTTs.
func (a row) inner(b row) ring.Poly {
	return a.both(b, ring.Poly.Mul).folded(ring.Poly.Add)
}

// through is the product of b and the matrix that has these lines.
func (b row) through(line func(i int) row) row {
	var out row
	for i := range out {
		out[i] = line(i).inner(b)
	}
	return out
}

// scaled is f of d of each polynomial, for a d that is right: so f refuses none.
func (a row) scaled(f func(ring.Poly, int) (ring.Poly, api.Errno), d int) row {
	for i, p := range a {
		a[i], _ = f(p, d)
	}
	return a
}

// written is all polynomials in d digits, for a d that is right.
func (a row) written(d int) []byte {
	var out []byte
	for _, p := range a {
		b, _ := p.Encode(d)
		out = append(out, b...)
	}
	return out
}

// read is the row whose written form in d digits b is, or Decode's error.
func read(d int, b []byte) (row, api.Errno) {
	var out row
	size := len(b) / rank
	for i := range out {
		p, e := ring.Decode(d, b[size*i:size*(i+1)])
		if e != api.OK {
			return row{}, e
		}
		out[i] = p
	}
	return out, api.OK
}

// noises is a row of small polynomials, from the n-th one of the seed on.
func noises(seed []byte, n int) row {
	var out row
	for i := range out {
		out[i] = ring.Noise(seed, byte(n+i))
	}
	return out
}

// matrix is the seed of FIPS 203's matrix A.
type matrix []byte

// line is the i-th line of A.
func (m matrix) line(i int) row {
	var out row
	for j := range out {
		out[j] = ring.Uniform(m, byte(j), byte(i))
	}
	return out
}

// column is the i-th column of A.
func (m matrix) column(i int) row {
	var out row
	for j := range out {
		out[j] = ring.Uniform(m, byte(i), byte(j))
	}
	return out
}
