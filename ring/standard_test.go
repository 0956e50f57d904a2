package ring_test

import (
	"bytes"
	"crypto/mlkem"
	"crypto/mlkem/mlkemtest"
	"testing"

	"missive/api"
	"missive/flat"
	"missive/ring"
	"missive/sha2"
	"missive/sha3"
)

// scheme is one of FIPS 203's that has noise of 2: how many polynomials a row has, the digits of both parts of a ciphertext, and another program of it.
type scheme struct {
	rank, du, dv int
	library      func(t *testing.T, seed, m []byte) (ek, ct []byte)
}

// schemes are ML-KEM-768 and ML-KEM-1024.
func schemes() []scheme {
	return []scheme{{3, 10, 4, library768}, {4, 11, 5, library1024}}
}

// library768 is the library's encapsulation key, and the ciphertext of m to it.
func library768(t *testing.T, seed, m []byte) (ek, ct []byte) {
	dk, e := mlkem.NewDecapsulationKey768(seed)
	if e != nil {
		t.Fatal(e)
	}
	_, ct, e = mlkemtest.Encapsulate768(dk.EncapsulationKey(), m)
	if e != nil {
		t.Fatal(e)
	}
	return dk.EncapsulationKey().Bytes(), ct
}

// library1024 is the same of ML-KEM-1024.
func library1024(t *testing.T, seed, m []byte) (ek, ct []byte) {
	dk, e := mlkem.NewDecapsulationKey1024(seed)
	if e != nil {
		t.Fatal(e)
	}
	_, ct, e = mlkemtest.Encapsulate1024(dk.EncapsulationKey(), m)
	if e != nil {
		t.Fatal(e)
	}
	return dk.EncapsulationKey().Bytes(), ct
}

// noises are as many small polynomials, from n on.
func noises(rank int, seed []byte, n int) []ring.Poly {
	var out []ring.Poly
	for i := range rank {
		out = append(out, ring.Noise(seed, byte(n+i)))
	}
	return out
}

// line is the k-th row of FIPS 203's matrix, or its k-th column.
func line(rank int, rho []byte, k int, column bool) []ring.Poly {
	var out []ring.Poly
	for i := range rank {
		if column {
			out = append(out, ring.Uniform(rho, byte(k), byte(i)))
		} else {
			out = append(out, ring.Uniform(rho, byte(i), byte(k)))
		}
	}
	return out
}

// inner is the sum of the products of two rows.
func inner(k, l []ring.Poly) ring.Poly { return folded(both(k, l, ring.Poly.Mul), ring.Poly.Add) }

// lines are the inner products of all rows, or columns, of the matrix with l.
func lines(rho []byte, l []ring.Poly, column bool) []ring.Poly {
	var out []ring.Poly
	for k := range l {
		out = append(out, inner(line(len(l), rho, k, column), l))
	}
	return out
}

// written is all of l, each in d digits.
func written(t *testing.T, l []ring.Poly, d int) []byte {
	t.Helper()
	var out []byte
	for _, p := range l {
		out = append(out, encoded(t, p, d)...)
	}
	return out
}

// keys is FIPS 203's K-PKE.KeyGen: its public key, and its secret row.
func (s scheme) keys(t *testing.T, d []byte) (ek []byte, secret []ring.Poly) {
	t.Helper()
	sum := sha3.Sum512(d, []byte{byte(s.rank)})
	rho, sigma := sum[:32], sum[32:]
	secret = each(noises(s.rank, sigma, 0), ring.Poly.NTT)
	off := each(noises(s.rank, sigma, s.rank), ring.Poly.NTT)
	row := both(lines(rho, secret, false), off, ring.Poly.Add)
	return flat.Cat(written(t, row, 12), rho), secret
}

// encrypt is FIPS 203's K-PKE.Encrypt.
func (s scheme) encrypt(t *testing.T, ek, m, r []byte) []byte {
	t.Helper()
	var row []ring.Poly
	for k := range s.rank {
		row = append(row, decoded(t, 12, ek[384*k:384*k+384]))
	}
	y := each(noises(s.rank, r, 0), ring.Poly.NTT)
	u := both(each(lines(ek[384*s.rank:], y, true), ring.Poly.Inverse), noises(s.rank, r, s.rank), ring.Poly.Add)
	text := expanded(t, decoded(t, 1, m), 1)
	v := inner(row, y).Inverse().Add(ring.Noise(r, byte(2*s.rank))).Add(text)
	compress := func(d int) func(ring.Poly) ring.Poly {
		return func(p ring.Poly) ring.Poly { return compressed(t, p, d) }
	}
	return flat.Cat(written(t, each(u, compress(s.du)), s.du), written(t, each([]ring.Poly{v}, compress(s.dv)), s.dv))
}

// decrypt is FIPS 203's K-PKE.Decrypt.
func (s scheme) decrypt(t *testing.T, secret []ring.Poly, ct []byte) []byte {
	t.Helper()
	var u []ring.Poly
	for k := range s.rank {
		u = append(u, expanded(t, decoded(t, s.du, ct[32*s.du*k:32*s.du*(k+1)]), s.du))
	}
	v := expanded(t, decoded(t, s.dv, ct[32*s.du*s.rank:]), s.dv)
	w := v.Sub(inner(secret, each(u, ring.Poly.NTT)).Inverse())
	return encoded(t, compressed(t, w, 1), 1)
}

// All of the chapter at once: keys and ciphertexts of it are those of another program, byte for byte.
func TestAgainstTheLibrary(t *testing.T) {
	for k := range 12 {
		d, z := sha2.Sum256(flat.Put32(uint32(k)), []byte("d")), sha2.Sum256(flat.Put32(uint32(k)), []byte("z"))
		m := sha2.Sum256(flat.Put32(uint32(k)), []byte("m"))
		for _, s := range schemes() {
			ek, secret := s.keys(t, d)
			wantedKey, wantedText := s.library(t, flat.Cat(d, z), m)
			if !bytes.Equal(ek, wantedKey) {
				t.Fatalf("rank %d: another key", s.rank)
			}
			r := sha3.Sum512(m, sha3.Sum256(ek))[32:]
			ct := s.encrypt(t, ek, m, r)
			if !bytes.Equal(ct, wantedText) {
				t.Fatalf("rank %d: another ciphertext", s.rank)
			}
			if got := s.decrypt(t, secret, ct); !bytes.Equal(got, m) {
				t.Errorf("rank %d: decrypted to %s", s.rank, flat.Hex(got))
			}
		}
	}
}

// The modulus check of FIPS 203, 7.2, is Decode's.
func TestKeyWithAGreatNumber(t *testing.T) {
	ek, _ := schemes()[0].keys(t, sha2.Sum256([]byte("great")))
	ek[0], ek[1] = q&255, ek[1]&0xf0|q>>8
	if _, e := ring.Decode(12, ek[:384]); e != api.ErrBad {
		t.Errorf("q in a key: %d", e)
	}
}
