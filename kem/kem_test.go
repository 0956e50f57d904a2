package kem_test

import (
	"bytes"
	"crypto/mlkem"
	"crypto/mlkem/mlkemtest"
	"crypto/sha3"
	"slices"
	"testing"

	"missive/api"
	"missive/flat"
	"missive/kem"
	"missive/ring"
	"missive/sha2"
)

// q is FIPS 203's.
const q = 3329

// seed is 32 bytes that have that name and number.
func seed(name string, k int) []byte { return sha2.Sum256(flat.Put32(uint32(k)), []byte(name)) }

// told fails where e is not wanted.
func told(t *testing.T, what string, e, wanted api.Errno) {
	t.Helper()
	if e != wanted {
		t.Fatalf("%s: got %d, want %d", what, e, wanted)
	}
}

// want fails where got is not wanted.
func want(t *testing.T, what string, got, wanted []byte) {
	t.Helper()
	if !bytes.Equal(got, wanted) {
		t.Fatalf("%s:\n got %s\nwant %s", what, flat.Hex(got), flat.Hex(wanted))
	}
}

// keys is Keys of seeds that may be.
func keys(t *testing.T, d, z []byte) (ek, dk []byte) {
	t.Helper()
	ek, dk, e := kem.Keys(d, z)
	told(t, "Keys", e, api.OK)
	return ek, dk
}

// encaps is Encaps of what may be.
func encaps(t *testing.T, ek, m []byte) (key, ct []byte) {
	t.Helper()
	key, ct, e := kem.Encaps(ek, m)
	told(t, "Encaps", e, api.OK)
	return key, ct
}

// decaps is Decaps of what may be.
func decaps(t *testing.T, dk, ct []byte) []byte {
	t.Helper()
	key, e := kem.Decaps(dk, ct)
	told(t, "Decaps", e, api.OK)
	return key
}

// inner is Inner of what may be.
func inner(t *testing.T, ek, m, r []byte) []byte {
	t.Helper()
	ct, e := kem.Inner(ek, m, r)
	told(t, "Inner", e, api.OK)
	return ct
}

// secretOf is another program's decapsulation key.
func secretOf(t *testing.T, d, z []byte) *mlkem.DecapsulationKey768 {
	t.Helper()
	dk, e := mlkem.NewDecapsulationKey768(flat.Cat(d, z))
	if e != nil {
		t.Fatal(e)
	}
	return dk
}

// sent is another program's shared key and ciphertext.
func sent(t *testing.T, ek, m []byte) (key, ct []byte) {
	t.Helper()
	p, e := mlkem.NewEncapsulationKey768(ek)
	if e != nil {
		t.Fatal(e)
	}
	key, ct, e = mlkemtest.Encapsulate768(p, m)
	if e != nil {
		t.Fatal(e)
	}
	return key, ct
}

// opened is another program's key of a ciphertext.
func opened(t *testing.T, dk *mlkem.DecapsulationKey768, ct []byte) []byte {
	t.Helper()
	key, e := dk.Decapsulate(ct)
	if e != nil {
		t.Fatal(e)
	}
	return key
}

// rejected is FIPS 203's J of z and a ciphertext, by another program's SHAKE256.
func rejected(z, ct []byte) []byte { return sha3.SumSHAKE256(flat.Cat(z, ct), 32) }

// hashed is FIPS 203's H by another program.
func hashed(b []byte) []byte {
	sum := sha3.Sum256(b)
	return sum[:]
}

// coins is what Encaps hands to K-PKE's encryption, by another program's G.
func coins(ek, m []byte) []byte {
	sum := sha3.Sum512(flat.Cat(m, hashed(ek)))
	return sum[32:]
}

// lengths are those around the right one, and others.
func lengths(right int) []int {
	return []int{0, 1, right / 2, right - 32, right - 1, right + 1, right + 32, 2 * right}
}

// ofLength is b cut, or with noughts behind it.
func ofLength(b []byte, n int) []byte {
	return append(slices.Clone(b), make([]byte, n)...)[:n]
}

// turned is b with a bit turned.
func turned(b []byte, bit int) []byte {
	out := slices.Clone(b)
	out[bit/8] ^= 1 << (bit % 8)
	return out
}

// withNumber is b with n as its k-th number of 12 digits.
func withNumber(b []byte, k int, n uint16) []byte {
	out := slices.Clone(b)
	low, high := &out[k/2*3], &out[k/2*3+1]
	if k%2 == 0 {
		*low, *high = byte(n), *high&0xf0|byte(n>>8)
	} else {
		out[k/2*3+1], out[k/2*3+2] = *high&0x0f|byte(n<<4), byte(n>>4)
	}
	return out
}

// rehashed is a dk whose hash is made that of its ek.
func rehashed(dk []byte) []byte {
	return slices.Concat(dk[:2336], hashed(dk[1152:2336]), dk[2368:])
}

// P11.1

func TestKeysAreTheLibrarys(t *testing.T) {
	for k := range 40 {
		d, z := seed("d", k), seed("z", k)
		ek, dk := keys(t, d, z)
		if len(ek) != 1184 || len(dk) != 2400 {
			t.Fatalf("%d and %d bytes", len(ek), len(dk))
		}
		want(t, "ek", ek, secretOf(t, d, z).EncapsulationKey().Bytes())
		want(t, "the public key in dk", dk[1152:2336], ek)
		want(t, "the hash in dk", dk[2336:2368], hashed(ek))
		want(t, "the rest of dk", dk[2368:], z)
	}
}

// The secret row is that of K-PKE.KeyGen: the numbers of sigma's first three polynomials.
func TestSecretRow(t *testing.T) {
	for k := range 10 {
		d := seed("row", k)
		_, dk := keys(t, d, seed("z", k))
		sum := sha3.Sum512(append(slices.Clone(d), 3))
		for i := range 3 {
			b, e := ring.Noise(sum[32:], byte(i)).NTT().Encode(12)
			told(t, "Encode", e, api.OK)
			want(t, "the secret row", dk[384*i:384*i+384], b)
		}
	}
}

// Seeds of all noughts and all ones are seeds as others are; z is in nothing but the rest.
func TestKeysOfEdges(t *testing.T) {
	none, all := make([]byte, 32), bytes.Repeat([]byte{255}, 32)
	for _, s := range [][2][]byte{{none, none}, {none, all}, {all, none}, {all, all}} {
		ek, dk := keys(t, s[0], s[1])
		want(t, "ek", ek, secretOf(t, s[0], s[1]).EncapsulationKey().Bytes())
		want(t, "the rest of dk", dk[2368:], s[1])
		other, same := keys(t, s[0], seed("z", 0))
		want(t, "ek of another z", other, ek)
		want(t, "dk of another z", same[:2368], dk[:2368])
	}
}

func TestKeysRefuse(t *testing.T) {
	d, z := seed("d", 0), seed("z", 0)
	refused := func(d, z []byte) {
		t.Helper()
		ek, dk, e := kem.Keys(d, z)
		told(t, "Keys", e, api.ErrArg)
		if len(ek) != 0 || len(dk) != 0 {
			t.Fatal("keys beside an error")
		}
	}
	refused(nil, nil)
	refused(nil, z)
	refused(d, nil)
	for _, n := range lengths(32) {
		refused(ofLength(d, n), z)
		refused(d, ofLength(z, n))
		refused(ofLength(d, n), ofLength(z, n))
	}
	refused(flat.Cat(d, z), nil)
}

// P11.2

func TestCheckOfLengths(t *testing.T) {
	ek, dk := keys(t, seed("d", 1), seed("z", 1))
	told(t, "Check", kem.Check(ek), api.OK)
	told(t, "CheckDk", kem.CheckDk(dk), api.OK)
	told(t, "Check of nil", kem.Check(nil), api.ErrArg)
	told(t, "CheckDk of nil", kem.CheckDk(nil), api.ErrArg)
	told(t, "Check of a dk", kem.Check(dk), api.ErrArg)
	told(t, "CheckDk of an ek", kem.CheckDk(ek), api.ErrArg)
	great := bytes.Repeat([]byte{255}, 5000)
	for _, n := range lengths(1184) {
		told(t, "Check of another length", kem.Check(ofLength(ek, n)), api.ErrArg)
		told(t, "Check of ones of another length", kem.Check(great[:n]), api.ErrArg)
	}
	for _, n := range lengths(2400) {
		told(t, "CheckDk of another length", kem.CheckDk(ofLength(dk, n)), api.ErrArg)
		told(t, "CheckDk of ones of another length", kem.CheckDk(great[:n]), api.ErrArg)
	}
	told(t, "Check of ones", kem.Check(great[:1184]), api.ErrBad)
	told(t, "CheckDk of ones", kem.CheckDk(great[:2400]), api.ErrBad)
}

func TestCheckOfEachNumber(t *testing.T) {
	ek, _ := keys(t, seed("d", 2), seed("z", 2))
	for k := range 768 {
		told(t, "Check of 0", kem.Check(withNumber(ek, k, 0)), api.OK)
		told(t, "Check of q - 1", kem.Check(withNumber(ek, k, q-1)), api.OK)
		told(t, "Check of q", kem.Check(withNumber(ek, k, q)), api.ErrBad)
		told(t, "Check of 4095", kem.Check(withNumber(ek, k, 4095)), api.ErrBad)
	}
}

// The seed of the matrix has no numbers; all bytes of it may be.
func TestCheckOfTheSeed(t *testing.T) {
	ek, _ := keys(t, seed("d", 3), seed("z", 3))
	told(t, "Check", kem.Check(flat.Cat(ek[:1152], bytes.Repeat([]byte{255}, 32))), api.OK)
	told(t, "Check of noughts", kem.Check(make([]byte, 1184)), api.OK)
}

// The hash is made right, so that it is the number that is refused.
func TestCheckDkOfEachNumber(t *testing.T) {
	_, dk := keys(t, seed("d", 4), seed("z", 4))
	for k := range 2 * 768 {
		told(t, "CheckDk of q - 1", kem.CheckDk(rehashed(withNumber(dk, k, q-1))), api.OK)
		told(t, "CheckDk of q", kem.CheckDk(rehashed(withNumber(dk, k, q))), api.ErrBad)
		told(t, "CheckDk of 4095", kem.CheckDk(rehashed(withNumber(dk, k, 4095))), api.ErrBad)
	}
}

// A dk holds its ek, and the hash of it, together; the secret and the rest stand for themselves.
func TestCheckDkOfTheHash(t *testing.T) {
	_, dk := keys(t, seed("d", 5), seed("z", 5))
	for i := range 32 {
		told(t, "CheckDk of another hash", kem.CheckDk(turned(dk, 8*(2336+i)+i%8)), api.ErrBad)
		told(t, "CheckDk of another seed of the matrix", kem.CheckDk(turned(dk, 8*(2304+i)+i%8)), api.ErrBad)
		told(t, "CheckDk of another rest", kem.CheckDk(turned(dk, 8*(2368+i)+i%8)), api.OK)
	}
	for k := range 768 {
		other := withNumber(dk, 768+k, 17)
		if bytes.Equal(other, dk) {
			continue
		}
		told(t, "CheckDk of another ek", kem.CheckDk(other), api.ErrBad)
		told(t, "CheckDk of another secret", kem.CheckDk(withNumber(dk, k, 17)), api.OK)
	}
	noughts := make([]byte, 2400)
	told(t, "CheckDk of noughts", kem.CheckDk(noughts), api.ErrBad)
	told(t, "CheckDk of noughts with their hash", kem.CheckDk(rehashed(noughts)), api.OK)
}

// P11.3

func TestEncapsIsTheLibrarys(t *testing.T) {
	for k := range 40 {
		d, z, m := seed("d", k), seed("z", k), seed("m", k)
		ek, dk := keys(t, d, z)
		key, ct := encaps(t, ek, m)
		wantedKey, wantedText := sent(t, ek, m)
		want(t, "the key", key, wantedKey)
		want(t, "the ciphertext", ct, wantedText)
		want(t, "Inner", inner(t, ek, m, coins(ek, m)), wantedText)
		want(t, "Decaps", decaps(t, dk, ct), wantedKey)
		want(t, "the library's key of it", opened(t, secretOf(t, d, z), ct), key)
		if len(key) != 32 || len(ct) != 1088 {
			t.Fatalf("%d and %d bytes", len(key), len(ct))
		}
	}
}

// What is encapsulated to need not be a key that anyone made.
func TestEncapsToAnyKey(t *testing.T) {
	ek, _ := keys(t, seed("d", 6), seed("z", 6))
	great := slices.Clone(ek)
	for k := range 768 {
		great = withNumber(great, k, q-1)
	}
	for k, p := range [][]byte{make([]byte, 1184), great, withNumber(ek, 767, q-1), turned(ek, 8*1183)} {
		for _, m := range [][]byte{make([]byte, 32), bytes.Repeat([]byte{255}, 32), seed("m", k)} {
			key, ct := encaps(t, p, m)
			wantedKey, wantedText := sent(t, p, m)
			want(t, "the key", key, wantedKey)
			want(t, "the ciphertext", ct, wantedText)
			want(t, "Inner", inner(t, p, m, coins(p, m)), wantedText)
		}
	}
}

// Decaps of a ciphertext that is wrong by a bit, wherever, and of such as no one made.
func TestDecapsOfWrongCiphertexts(t *testing.T) {
	d, z := seed("d", 7), seed("z", 7)
	ek, dk := keys(t, d, z)
	key, ct := encaps(t, ek, seed("m", 7))
	theirs := secretOf(t, d, z)
	wrong := [][]byte{make([]byte, 1088), bytes.Repeat([]byte{255}, 1088), turned(ct, 0), turned(ct, 8*1088-1)}
	for bit := 3; bit < 8*1088; bit += 41 {
		wrong = append(wrong, turned(ct, bit))
	}
	for k := range 20 {
		wrong = append(wrong, sha3.SumSHAKE256(seed("ct", k), 1088))
	}
	for _, c := range wrong {
		got := decaps(t, dk, c)
		want(t, "Decaps", got, opened(t, theirs, c))
		want(t, "Decaps by J", got, rejected(z, c))
		if bytes.Equal(got, key) {
			t.Fatal("the same key")
		}
	}
}

// A ciphertext of the right text that was made with another draw is a wrong one.
func TestDecapsOfAnotherDraw(t *testing.T) {
	d, z, m := seed("d", 8), seed("z", 8), seed("m", 8)
	ek, dk := keys(t, d, z)
	for k := range 10 {
		ct := inner(t, ek, m, seed("r", k))
		want(t, "Decaps", decaps(t, dk, ct), rejected(z, ct))
		want(t, "the library's", opened(t, secretOf(t, d, z), ct), rejected(z, ct))
	}
}

// A dk that may be need not be one that Keys made.
func TestDecapsOfOtherSecrets(t *testing.T) {
	ek, dk := keys(t, seed("d", 9), seed("z", 9))
	key, ct := encaps(t, ek, seed("m", 9))
	// Another rest is asked of wrong ciphertexts alone.
	rest := turned(dk, 8*2399)
	want(t, "another rest", decaps(t, rest, ct), key)
	want(t, "another rest of a wrong one", decaps(t, rest, turned(ct, 9)), rejected(rest[2368:], turned(ct, 9)))
	// The secret is another one: so the text is another one.
	_, more := keys(t, seed("d", 10), seed("z", 10))
	other := flat.Cat(more[:1152], dk[1152:])
	want(t, "another secret", decaps(t, other, ct), rejected(dk[2368:], ct))
	noughts := flat.Cat(make([]byte, 1152), dk[1152:])
	want(t, "a secret of noughts", decaps(t, noughts, ct), rejected(dk[2368:], ct))
	// The secret is the same, the key that is encrypted to again is another one.
	strange := rehashed(flat.Cat(dk[:1152], more[1152:]))
	want(t, "another ek", decaps(t, strange, ct), rejected(more[2368:], ct))
}

// All 32 bytes of the draw, and of the text, tell.
func TestInnerOfEachBit(t *testing.T) {
	ek, _ := keys(t, seed("d", 11), seed("z", 11))
	m, r := seed("m", 11), seed("r", 11)
	first := inner(t, ek, m, r)
	want(t, "Inner again", inner(t, ek, m, r), first)
	for i := range 32 {
		if bytes.Equal(inner(t, ek, turned(m, 8*i+i%8), r), first) {
			t.Fatalf("the same of another text, byte %d", i)
		}
		if bytes.Equal(inner(t, ek, m, turned(r, 8*i+i%8)), first) {
			t.Fatalf("the same of another draw, byte %d", i)
		}
	}
	// The text stands in the second part alone.
	other := inner(t, ek, seed("m", 12), r)
	want(t, "the first part", other[:960], first[:960])
}

func TestEncapsRefuses(t *testing.T) {
	ek, _ := keys(t, seed("d", 13), seed("z", 13))
	bad := withNumber(ek, 500, q)
	m := seed("m", 13)
	refused := func(ek, m []byte, wanted api.Errno) {
		t.Helper()
		key, ct, e := kem.Encaps(ek, m)
		told(t, "Encaps", e, wanted)
		text, e := kem.Inner(ek, m, m)
		told(t, "Inner", e, wanted)
		if len(key) != 0 || len(ct) != 0 || len(text) != 0 {
			t.Fatal("an answer beside an error")
		}
	}
	refused(bad, m, api.ErrBad)
	// The key is looked at first.
	refused(bad, nil, api.ErrBad)
	refused(nil, m, api.ErrArg)
	refused(ek, nil, api.ErrArg)
	for _, n := range lengths(32) {
		refused(ek, ofLength(m, n), api.ErrArg)
		refused(bad, ofLength(m, n), api.ErrBad)
	}
	for _, n := range lengths(1184) {
		refused(ofLength(ek, n), m, api.ErrArg)
	}
}

func TestInnerRefuses(t *testing.T) {
	ek, _ := keys(t, seed("d", 14), seed("z", 14))
	m, r := seed("m", 14), seed("r", 14)
	for _, n := range lengths(32) {
		for _, pair := range [][2][]byte{{m, ofLength(r, n)}, {ofLength(m, n), r}, {ofLength(m, n), ofLength(r, n)}} {
			ct, e := kem.Inner(ek, pair[0], pair[1])
			told(t, "Inner", e, api.ErrArg)
			if len(ct) != 0 {
				t.Fatal("a ciphertext beside an error")
			}
			_, e = kem.Inner(withNumber(ek, 0, q), pair[0], pair[1])
			told(t, "Inner to a bad key", e, api.ErrBad)
		}
	}
}

func TestDecapsRefuses(t *testing.T) {
	ek, dk := keys(t, seed("d", 15), seed("z", 15))
	_, ct := encaps(t, ek, seed("m", 15))
	refused := func(dk, ct []byte, wanted api.Errno) {
		t.Helper()
		key, e := kem.Decaps(dk, ct)
		told(t, "Decaps", e, wanted)
		if len(key) != 0 {
			t.Fatal("a key beside an error")
		}
	}
	bad := [][]byte{withNumber(dk, 3, q), rehashed(withNumber(dk, 800, q)), turned(dk, 8*2340)}
	for _, b := range bad {
		refused(b, ct, api.ErrBad)
	}
	refused(dk, nil, api.ErrArg)
	refused(nil, ct, api.ErrArg)
	for _, n := range lengths(1088) {
		refused(dk, ofLength(ct, n), api.ErrArg)
		// The key is looked at first.
		for _, b := range bad {
			refused(b, ofLength(ct, n), api.ErrBad)
		}
	}
	for _, n := range lengths(2400) {
		refused(ofLength(dk, n), ct, api.ErrArg)
	}
}

// A published case of the whole: the sum of a hundred keys, ciphertexts, shared keys and keys of wrong ciphertexts.
func TestAccumulated(t *testing.T) {
	drawn, sum := sha3.NewSHAKE128(), sha3.NewSHAKE128()
	draw := func(n int) []byte {
		b := make([]byte, n)
		drawn.Read(b)
		return b
	}
	for range 100 {
		both := draw(64)
		ek, dk := keys(t, both[:32], both[32:])
		key, ct := encaps(t, ek, draw(32))
		want(t, "Decaps", decaps(t, dk, ct), key)
		for _, b := range [][]byte{ek, ct, key, decaps(t, dk, draw(1088))} {
			sum.Write(b)
		}
	}
	out := make([]byte, 32)
	sum.Read(out)
	if got := flat.Hex(out); got != "1114b1b6699ed191734fa339376afa7e285c9e6acf6ff0177d346696ce564415" {
		t.Errorf("got %s", got)
	}
}

// P11.4

// roomy is b with spare room behind it that a careless append would write to.
func roomy(b []byte) []byte {
	return append(slices.Clone(b), 201, 202, 203, 204, 205, 206, 207, 208)[: len(b) : len(b)+8]
}

// whole is b with its spare room.
func whole(b []byte) []byte { return b[:cap(b)] }

// fill overwrites b and its spare room.
func fill(b []byte) {
	for i := range whole(b) {
		whole(b)[i] = 99
	}
}

// handed fails where a call changed one of l, or where what it answered shares memory with one of l or with another answer.
func handed(t *testing.T, what string, l [][]byte, call func(l [][]byte) [][]byte) {
	t.Helper()
	var given [][]byte
	for _, b := range l {
		given = append(given, roomy(b))
	}
	wanted := call(l)
	got := call(given)
	for i, b := range l {
		want(t, what+": what was handed in", whole(given[i]), whole(roomy(b)))
		fill(given[i])
	}
	for i, b := range got {
		want(t, what+": the answer", b, wanted[i])
		fill(b)
	}
	for i, b := range call(l) {
		want(t, what+": the answer again", b, wanted[i])
	}
}

func TestNothingIsChangedOrKept(t *testing.T) {
	d, z, m, r := seed("d", 16), seed("z", 16), seed("m", 16), seed("r", 16)
	ek, dk := keys(t, d, z)
	_, ct := encaps(t, ek, m)
	handed(t, "Keys", [][]byte{d, z}, func(l [][]byte) [][]byte {
		ek, dk := keys(t, l[0], l[1])
		return [][]byte{ek, dk}
	})
	handed(t, "Check", [][]byte{ek, dk}, func(l [][]byte) [][]byte {
		told(t, "Check", kem.Check(l[0]), api.OK)
		told(t, "CheckDk", kem.CheckDk(l[1]), api.OK)
		return nil
	})
	handed(t, "Encaps", [][]byte{ek, m}, func(l [][]byte) [][]byte {
		key, ct := encaps(t, l[0], l[1])
		return [][]byte{key, ct}
	})
	handed(t, "Decaps", [][]byte{dk, ct}, func(l [][]byte) [][]byte {
		return [][]byte{decaps(t, l[0], l[1])}
	})
	handed(t, "Decaps of a wrong one", [][]byte{dk, turned(ct, 5)}, func(l [][]byte) [][]byte {
		return [][]byte{decaps(t, l[0], l[1])}
	})
	handed(t, "Inner", [][]byte{ek, m, r}, func(l [][]byte) [][]byte {
		return [][]byte{inner(t, l[0], l[1], l[2])}
	})
}

// One list of an answer, filled to the end of its room, leaves the other one as it was.
func TestAnswersShareNothing(t *testing.T) {
	ek, dk := keys(t, seed("d", 17), seed("z", 17))
	before := slices.Clone(dk)
	fill(ek)
	want(t, "dk", dk, before)
	ek, _ = keys(t, seed("d", 17), seed("z", 17))
	key, ct := encaps(t, ek, seed("m", 17))
	text := slices.Clone(ct)
	fill(key)
	want(t, "ct", ct, text)
}

// One seed as both: arguments may be one memory.
func TestOneListAsAllArguments(t *testing.T) {
	s := seed("s", 18)
	ek, dk := keys(t, s, s)
	want(t, "ek", ek, secretOf(t, s, s).EncapsulationKey().Bytes())
	key, ct := encaps(t, ek, s)
	want(t, "Decaps", decaps(t, dk, ct), key)
	want(t, "Inner", inner(t, ek, s, s), inner(t, ek, slices.Clone(s), slices.Clone(s)))
}
