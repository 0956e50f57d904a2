package kem

import (
	"missive/api"
	"missive/flat"
	"missive/ring"
	"missive/sha3"
)

// The digits of a number: in keys, in both parts of a ciphertext, in a text.
const (
	keyDigits   = 12
	outerDigits = 10
	innerDigits = 4
	textDigits  = 1
)

// Bytes of a written row, and of a written row of a ciphertext.
const (
	rowSize   = rank * 32 * keyDigits
	outerSize = rank * 32 * outerDigits
)

// public is a public key of K-PKE.
type public struct {
	row    row
	matrix matrix
}

// readPublic is the public key whose bytes ek is; ErrArg, or ErrBad.
func readPublic(ek []byte) (public, api.Errno) {
	if len(ek) != api.EkSize {
		return public{}, api.ErrArg
	}
	r, e := read(keyDigits, ek[:rowSize])
	if e != api.OK {
		return public{}, e
	}
	return public{r, ek[rowSize:]}, api.OK
}

// generate is K-PKE's KeyGen of 32 bytes: the public key, and the secret row.
func generate(d []byte) (ek, dk []byte) {
	rho, sigma := halves(d, []byte{rank})
	hidden := noises(sigma, 0).each(ring.Poly.NTT)
	off := noises(sigma, rank).each(ring.Poly.NTT)
	shown := hidden.through(matrix(rho).line).both(off, ring.Poly.Add)
	return flat.Cat(shown.written(keyDigits), rho), hidden.written(keyDigits)
}

// encrypt is K-PKE's Encrypt of a text of 32 bytes, with 32 bytes that the noise is drawn from.
func (p public) encrypt(text, r []byte) []byte {
	y := noises(r, 0).each(ring.Poly.NTT)
	outer := y.through(p.matrix.column).each(ring.Poly.Inverse).both(noises(r, rank), ring.Poly.Add)
	inner := p.row.inner(y).Inverse().Add(ring.Noise(r, 2*rank)).Add(grown(textDigits, text))
	return flat.Cat(
		outer.scaled(ring.Poly.Compress, outerDigits).written(outerDigits),
		shrunk(innerDigits, inner),
	)
}

// decrypt is K-PKE's Decrypt of a ciphertext of the right length, by a secret row.
func (a row) decrypt(ct []byte) []byte {
	// Numbers of fewer than 12 digits may all be: so there is no error.
	outer, _ := read(outerDigits, ct[:outerSize])
	u := outer.scaled(ring.Poly.Expand, outerDigits)
	noisy := grown(innerDigits, ct[outerSize:]).Sub(a.inner(u.each(ring.Poly.NTT)).Inverse())
	return shrunk(textDigits, noisy)
}

// shrunk is p in d digits a number, the others left out, for a d that is right.
func shrunk(d int, p ring.Poly) []byte {
	c, _ := p.Compress(d)
	b, _ := c.Encode(d)
	return b
}

// grown is nearly the polynomial that was shrunk to b, for a d and a length that are right.
func grown(d int, b []byte) ring.Poly {
	c, _ := ring.Decode(d, b)
	p, _ := c.Expand(d)
	return p
}

// halves is FIPS 203's G of all of l: 32 bytes, and 32 bytes, each in memory of its own.
func halves(l ...[]byte) (first, second []byte) {
	sum := sha3.Sum512(l...)
	return flat.Cat(sum[:api.KeySize]), flat.Cat(sum[api.KeySize:])
}
