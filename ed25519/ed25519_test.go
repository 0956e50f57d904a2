package ed25519_test

import (
	"bytes"
	stdlib "crypto/ed25519"
	"math/big"
	"slices"
	"testing"

	"missive/api"
	"missive/ed25519"
	"missive/edwards"
	"missive/flat"
	"missive/scalar"
	"missive/sha2"
)

// order is L, by another program than this one.
var order = new(big.Int).Add(new(big.Int).Lsh(big.NewInt(1), 252), decimal("27742317777372353535851937790883648493"))

// decimal is the number that s writes.
func decimal(s string) *big.Int {
	n, _ := new(big.Int).SetString(s, 10)
	return n
}

// form is the 32 bytes of n, the least first.
func form(n *big.Int) []byte {
	out := n.FillBytes(make([]byte, 32))
	slices.Reverse(out)
	return out
}

// number is the number of b, the least first.
func number(b []byte) *big.Int {
	turned := slices.Clone(b)
	slices.Reverse(turned)
	return new(big.Int).SetBytes(turned)
}

// unhex is the bytes that s writes.
func unhex(t *testing.T, s string) []byte {
	t.Helper()
	b, ok := flat.Unhex(s)
	if !ok {
		t.Fatalf("no hex: %s", s)
	}
	return b
}

// drawn is 32 bytes that look like chance, others for each k.
func drawn(k int) []byte { return sha2.Sum256(flat.Put32(uint32(k)), []byte("ed25519")) }

// text is n bytes that look like chance.
func text(n int) []byte {
	var out []byte
	for k := 0; len(out) < n; k++ {
		out = append(out, drawn(1000+k)...)
	}
	return out[:n]
}

// flipped is b with its bit k turned.
func flipped(b []byte, k int) []byte {
	out := slices.Clone(b)
	out[k/8] ^= 1 << (k % 8)
	return out
}

// want fails where got is not wanted.
func want(t *testing.T, what string, got, wanted []byte) {
	t.Helper()
	if !bytes.Equal(got, wanted) {
		t.Errorf("%s:\n got %s\nwant %s", what, flat.Hex(got), flat.Hex(wanted))
	}
}

// told fails where e is not wanted.
func told(t *testing.T, what string, e, wanted api.Errno) {
	t.Helper()
	if e != wanted {
		t.Errorf("%s: got %d, want %d", what, e, wanted)
	}
}

// public is the public key of a seed that is one.
func public(t *testing.T, seed []byte) []byte {
	t.Helper()
	out, e := ed25519.Public(seed)
	told(t, "Public", e, api.OK)
	return out
}

// signed is the signature by a seed that is one.
func signed(t *testing.T, seed []byte, l ...[]byte) []byte {
	t.Helper()
	out, e := ed25519.Sign(seed, l...)
	told(t, "Sign", e, api.OK)
	return out
}

// signer is one of a seed that is one.
func signer(t *testing.T, seed []byte) *ed25519.Signer {
	t.Helper()
	s, e := ed25519.NewSigner(seed)
	if e != api.OK || s == nil {
		t.Fatalf("NewSigner: %d", e)
	}
	return s
}

// secret is the scalar of a seed: of RFC 8032's number, by another program than this one.
func secret(seed []byte) scalar.S {
	b := sha2.Sum512(seed)[:32]
	b[0] &= 248
	b[31] = b[31]&63 | 64
	return scalar.Wide(b)
}

// challenge is RFC 8032's k.
func challenge(r, public []byte, l ...[]byte) scalar.S {
	return scalar.Wide(sha2.Sum512(r, public, flat.Cat(l...)))
}

// small are the points of small order, k times one of order 8.
func small(t *testing.T) []edwards.P {
	t.Helper()
	first, e := edwards.Decode(unhex(t, "26e8958fc2b227b045c3f489f2ef98f0d5dfac05d3c63339b13802886d53fc05"))
	if e != api.OK || first.Times(4).Same(edwards.P{}) || !first.Times(8).Same(edwards.P{}) {
		t.Fatal("the known one is not of order 8")
	}
	out := make([]edwards.P, 8)
	for k := range out {
		out[k] = first.Times(k)
	}
	return out
}

// roomy is b with spare room behind it that a careless append would write to.
func roomy(b ...byte) []byte {
	return append(slices.Clone(b), 201, 202, 203, 204, 205, 206, 207, 208)[: len(b) : len(b)+8]
}

// whole is b with its spare room.
func whole(b []byte) []byte { return b[:cap(b)] }

// fill overwrites b and its spare room.
func fill(b []byte) {
	for i := range whole(b) {
		whole(b)[i] = 99
	}
}

// A published is one of RFC 8032's cases.
type published struct{ seed, public, text, sig string }

// cases are those of RFC 8032, 7.1, but for the one of 1023 bytes.
func cases() []published {
	return []published{
		{
			seed:   "9d61b19deffd5a60ba844af492ec2cc44449c5697b326919703bac031cae7f60",
			public: "d75a980182b10ab7d54bfed3c964073a0ee172f3daa62325af021a68f707511a",
			sig: "e5564300c360ac729086e2cc806e828a84877f1eb8e5d974d873e06522490155" +
				"5fb8821590a33bacc61e39701cf9b46bd25bf5f0595bbe24655141438e7a100b",
		},
		{
			seed:   "4ccd089b28ff96da9db6c346ec114e0f5b8a319f35aba624da8cf6ed4fb8a6fb",
			public: "3d4017c3e843895a92b70aa74d1b7ebc9c982ccf2ec4968cc0cd55f12af4660c",
			text:   "72",
			sig: "92a009a9f0d4cab8720e820b5f642540a2b27b5416503f8fb3762223ebdb69da" +
				"085ac1e43e15996e458f3613d0f11d8c387b2eaeb4302aeeb00d291612bb0c00",
		},
		{
			seed:   "c5aa8df43f9f837bedb7442f31dcb7b166d38535076f094b85ce3a2e0b4458f7",
			public: "fc51cd8e6218a1a38da47ed00230f0580816ed13ba3303ac5deb911548908025",
			text:   "af82",
			sig: "6291d657deec24024827e69c3abe01a30ce548a284743a445e3680d7db5ac3ac" +
				"18ff9b538d16f290ae67f760984dc6594a7c15e9716ed28dc027beceea1ec40a",
		},
		{
			seed:   "833fe62409237b9d62ec77587520911e9a759cec1d19755b7da901b96dca3d42",
			public: "ec172b93ad5e563bf4932c70e1245034c35467ef2efd4d64ebf819683467e2bf",
			text: "ddaf35a193617abacc417349ae20413112e6fa4e89a97ea20a9eeee64b55d39a" +
				"2192992a274fc1a836ba3c23a3feebbd454d4423643ce80e2a9ac94fa54ca49f",
			sig: "dc2a4459e7369633a52b1bf277839a00201009a3efbf3ecb69bea2186c26b589" +
				"09351fc9ac90b3ecfdfbc7c66431e0303dca179c138ac17ad9bef1177331a704",
		},
	}
}

// P9.1

func TestPublished(t *testing.T) {
	for _, c := range cases() {
		seed, key, b, sig := unhex(t, c.seed), unhex(t, c.public), unhex(t, c.text), unhex(t, c.sig)
		want(t, "Public", public(t, seed), key)
		want(t, "Sign", signed(t, seed, b), sig)
		told(t, "Verify", ed25519.Verify(key, sig, b), api.OK)
		told(t, "Verify of another text", ed25519.Verify(key, sig, b, []byte{0}), api.ErrSig)
	}
	if b := public(t, unhex(t, cases()[0].seed)); !bytes.Equal(b[:4], []byte{0xd7, 0x5a, 0x98, 0x01}) {
		t.Errorf("the chapter's example: %s", flat.Hex(b))
	}
}

// seeds are some: of the same bytes, and many that look like chance.
func seeds() [][]byte {
	var out [][]byte
	for _, x := range []byte{0, 1, 127, 128, 255} {
		out = append(out, bytes.Repeat([]byte{x}, 32))
	}
	for k := range 20 {
		out = append(out, drawn(k))
	}
	return out
}

func TestSignByTheLibrary(t *testing.T) {
	for i, seed := range seeds() {
		other := stdlib.NewKeyFromSeed(seed)
		want(t, "Public", public(t, seed), other[32:])
		b := text(7 * i)
		want(t, "Sign", signed(t, seed, b), stdlib.Sign(other, b))
	}
}

// Around the ends of SHA-512's blocks, 32 and 64 bytes behind the beginning.
func TestSignOfAllLengths(t *testing.T) {
	seed := drawn(1)
	other := stdlib.NewKeyFromSeed(seed)
	s := signer(t, seed)
	for _, n := range []int{0, 1, 31, 32, 33, 47, 48, 63, 64, 65, 79, 80, 81, 95, 96, 97, 127, 128, 129, 176, 208, 209, 1023, 1024, 100000} {
		b := text(n)
		sig := s.Sign(b)
		want(t, "Sign", sig, stdlib.Sign(other, b))
		told(t, "Verify", ed25519.Verify(s.Public(), sig, b), api.OK)
	}
}

// All of l counts as one text, in whatever pieces.
func TestPieces(t *testing.T) {
	seed, b := drawn(2), text(50)
	key, sig := public(t, seed), signed(t, seed, b)
	for _, l := range [][][]byte{
		{b},
		{b[:1], b[1:]},
		{nil, b[:25], {}, b[25:], nil},
		{b[:10], b[10:20], b[20:30], b[30:40], b[40:]},
	} {
		want(t, "Sign of pieces", signed(t, seed, l...), sig)
		want(t, "a Signer's Sign of pieces", signer(t, seed).Sign(l...), sig)
		told(t, "Verify of pieces", ed25519.Verify(key, sig, l...), api.OK)
	}
	for what, l := range map[string][][]byte{
		"none":                 {},
		"the first alone":      {b[:25]},
		"the last alone":       {b[25:]},
		"turned about":         {b[25:], b[:25]},
		"twice":                {b, b},
		"with one byte more":   {b, {0}},
		"with one byte ahead":  {{0}, b},
		"with one byte fewer":  {b[:49]},
		"without the first":    {b[1:]},
		"with one bit another": {flipped(b, 399)},
	} {
		told(t, "Verify of "+what, ed25519.Verify(key, sig, l...), api.ErrSig)
	}
	none := signed(t, seed)
	for _, l := range [][][]byte{nil, {nil}, {{}, {}}} {
		want(t, "Sign of no bytes", signed(t, seed, l...), none)
		told(t, "Verify of no bytes", ed25519.Verify(key, none, l...), api.OK)
	}
}

func TestOtherSeeds(t *testing.T) {
	seed := slices.Concat(drawn(1), drawn(2))
	for n := range 65 {
		if n == 32 {
			continue
		}
		key, e := ed25519.Public(seed[:n])
		if e != api.ErrArg || key != nil {
			t.Errorf("Public of %d bytes: %d, %v", n, e, key)
		}
		sig, e := ed25519.Sign(seed[:n], []byte("text"))
		if e != api.ErrArg || sig != nil {
			t.Errorf("Sign with %d bytes: %d, %v", n, e, sig)
		}
		s, e := ed25519.NewSigner(seed[:n])
		if e != api.ErrArg || s != nil {
			t.Errorf("NewSigner of %d bytes: %d, %v", n, e, s)
		}
	}
	if s, e := ed25519.NewSigner(nil); e != api.ErrArg || s != nil {
		t.Errorf("NewSigner of nil: %d, %v", e, s)
	}
}

// P9.2

func TestVerifyOfTurnedBits(t *testing.T) {
	seed, b := drawn(3), text(20)
	key, sig := public(t, seed), signed(t, seed, b)
	for k := range 8 * 64 {
		told(t, "a bit of the signature", ed25519.Verify(key, flipped(sig, k), b), api.ErrSig)
	}
	for k := range 8 * 20 {
		told(t, "a bit of the text", ed25519.Verify(key, sig, flipped(b, k)), api.ErrSig)
	}
	points := 0
	for k := range 8 * 32 {
		wanted := api.ErrPoint
		if _, e := edwards.Decode(flipped(key, k)); e == api.OK {
			wanted = api.ErrSig
			points++
		}
		told(t, "a bit of the public key", ed25519.Verify(flipped(key, k), sig, b), wanted)
	}
	if points < 50 || points > 200 {
		t.Errorf("%d other public keys are points", points)
	}
	told(t, "another's public key", ed25519.Verify(public(t, drawn(4)), sig, b), api.ErrSig)
	told(t, "another's signature", ed25519.Verify(key, signed(t, drawn(4), b), b), api.ErrSig)
	told(t, "halves turned about", ed25519.Verify(key, flat.Cat(sig[32:], sig[:32]), b), api.ErrSig)
}

func TestVerifyOfLengths(t *testing.T) {
	seed, b := drawn(5), text(9)
	key, sig := public(t, seed), signed(t, seed, b)
	for n := range 130 {
		if n != 64 {
			told(t, "a signature of another length", ed25519.Verify(key, flat.Cat(sig, sig, sig)[:n], b), api.ErrSig)
			told(t, "a signature and noughts", ed25519.Verify(key, flat.Cat(sig, make([]byte, 66))[:n], b), api.ErrSig)
		}
		if n != 32 {
			told(t, "a public key of another length", ed25519.Verify(flat.Cat(key, key, key, key, key)[:n], sig, b), api.ErrPoint)
			told(t, "a public key and noughts", ed25519.Verify(flat.Cat(key, make([]byte, 98))[:n], sig, b), api.ErrPoint)
		}
	}
	told(t, "no signature", ed25519.Verify(key, nil, b), api.ErrSig)
	told(t, "no public key", ed25519.Verify(nil, sig, b), api.ErrPoint)
	told(t, "neither", ed25519.Verify(nil, nil), api.ErrPoint)
}

// What is wrong with the public key is told first.
func TestVerifyTellsThePointFirst(t *testing.T) {
	one := append([]byte{1}, make([]byte, 31)...)
	two := append([]byte{2}, make([]byte, 31)...)
	for _, key := range [][]byte{nil, one, two, one[:31], bytes.Repeat([]byte{255}, 32)} {
		for _, sig := range [][]byte{nil, make([]byte, 63), make([]byte, 64), bytes.Repeat([]byte{255}, 64), flat.Cat(one, make([]byte, 32))} {
			told(t, "both are wrong", ed25519.Verify(key, sig, []byte("text")), api.ErrPoint)
		}
	}
}

// S has one form: neither L more, nor as many times L more as 32 bytes hold.
func TestVerifyOfGreatNumbers(t *testing.T) {
	seed, b := drawn(6), text(11)
	key, sig := public(t, seed), signed(t, seed, b)
	n, most := number(sig[32:]), new(big.Int).Lsh(big.NewInt(1), 256)
	forms := 0
	for n.Add(n, order); n.Cmp(most) < 0; n.Add(n, order) {
		told(t, "S and L", ed25519.Verify(key, flat.Cat(sig[:32], form(n)), b), api.ErrSig)
		forms++
	}
	if forms != 15 {
		t.Errorf("%d further forms", forms)
	}
}

// R may be whatever point; then just one S fits, and those at the edges do not.
func TestVerifyOfOtherNumbers(t *testing.T) {
	own, seed, b := scalar.Wide(drawn(7)), drawn(8), text(12)
	key := public(t, seed)
	r := edwards.Base().Mult(own).Encode()
	s := own.Add(challenge(r, key, b).Mul(secret(seed)))
	told(t, "an R that nobody drew", ed25519.Verify(key, flat.Cat(r, s.Bytes()), b), api.OK)
	for _, n := range []*big.Int{big.NewInt(0), big.NewInt(1), order, new(big.Int).Sub(order, big.NewInt(1))} {
		told(t, "another S", ed25519.Verify(key, flat.Cat(r, form(n)), b), api.ErrSig)
	}
}

// R may be of small order, in its one form.
func TestVerifyOfSmallR(t *testing.T) {
	seed, b := drawn(9), text(13)
	key := public(t, seed)
	sign := func(r []byte) []byte { return flat.Cat(r, challenge(r, key, b).Mul(secret(seed)).Bytes()) }
	for k, r := range small(t) {
		wanted := api.ErrSig
		if k == 0 {
			wanted = api.OK
		}
		told(t, "an R of small order", ed25519.Verify(key, sign(r.Encode()), b), wanted)
	}
	neutral := edwards.P{}.Encode()
	great := unhex(t, "eeffffffffffffffffffffffffffffffffffffffffffffffffffffffffffff7f")
	for what, r := range map[string][]byte{
		"x's bit, where x is 0":         flipped(neutral, 255),
		"y is p + 1":                    great,
		"y is p + 1, and x's bit":       flipped(great, 255),
		"y is 2, which no point has":    append([]byte{2}, make([]byte, 31)...),
		"y is 2, and x's bit":           flipped(append([]byte{2}, make([]byte, 31)...), 255),
		"all bits":                      bytes.Repeat([]byte{255}, 32),
		"y is p, which is 0 of order 4": append([]byte{0xed}, great[1:]...),
	} {
		told(t, "R is in no form: "+what, ed25519.Verify(key, sign(r), b), api.ErrSig)
	}
}

// Of a small public key a signature is easily made: none is taken, nor is one whose key is in another form.
func TestVerifyOfSmallKeys(t *testing.T) {
	b := text(14)
	forged := 0
	for _, a := range small(t) {
		key := a.Encode()
		for k := range 20 {
			own := scalar.Wide(drawn(k))
			r := edwards.Base().Mult(own).Encode()
			sig := flat.Cat(r, own.Bytes())
			if stdlib.Verify(key, b, sig) {
				forged++
			}
			told(t, "a public key of small order", ed25519.Verify(key, sig, b), api.ErrPoint)
			told(t, "and no signature", ed25519.Verify(key, nil, b), api.ErrPoint)
		}
	}
	if forged < 20 {
		t.Errorf("just %d would be taken of others", forged)
	}
	for _, s := range []string{
		"0100000000000000000000000000000000000000000000000000000000000080",
		"eeffffffffffffffffffffffffffffffffffffffffffffffffffffffffffff7f",
		"edffffffffffffffffffffffffffffffffffffffffffffffffffffffffffff7f",
		"f0ffffffffffffffffffffffffffffffffffffffffffffffffffffffffffff7f",
		"0200000000000000000000000000000000000000000000000000000000000000",
	} {
		told(t, "no form of a point: "+s, ed25519.Verify(unhex(t, s), flat.Cat(edwards.P{}.Encode(), make([]byte, 32)), b), api.ErrPoint)
	}
}

// Both sides are held against each other as points: what a public key, or R, has of small order is not left out.
func TestVerifyOfMixedPoints(t *testing.T) {
	taken, refused := 0, 0
	l := small(t)
	for i, part := range l {
		key := edwards.Base().Mult(secret(drawn(10))).Add(part).Encode()
		for j, beside := range l {
			for n := range 3 {
				own, b := scalar.Wide(drawn(20+n)), text(n)
				r := edwards.Base().Mult(own).Add(beside).Encode()
				k := challenge(r, key, b)
				sig := flat.Cat(r, own.Add(k.Mul(secret(drawn(10)))).Bytes())
				wanted := api.ErrSig
				if (j+i*int(k.Bytes()[0]&7))%8 == 0 {
					wanted = api.OK
					taken++
				} else {
					refused++
				}
				told(t, "a mixed one", ed25519.Verify(key, sig, b), wanted)
				if stdlib.Verify(key, b, sig) != (wanted == api.OK) {
					t.Errorf("the library has it otherwise: %d, %d, %d", i, j, n)
				}
			}
		}
	}
	if taken < 10 || refused < 100 {
		t.Errorf("%d taken, %d refused", taken, refused)
	}
}

// P9.3

func TestSigner(t *testing.T) {
	for i, seed := range seeds() {
		s := signer(t, seed)
		want(t, "Public", s.Public(), public(t, seed))
		for _, b := range [][]byte{nil, text(i), text(3 * i)} {
			want(t, "Sign", s.Sign(b), signed(t, seed, b))
			want(t, "Sign again", s.Sign(b), signed(t, seed, b))
		}
		want(t, "Sign of none", s.Sign(), signed(t, seed))
		want(t, "Public again", s.Public(), public(t, seed))
	}
}

// Each signs with its own key, whatever the others do.
func TestSignersAreApart(t *testing.T) {
	a, b := signer(t, drawn(1)), signer(t, drawn(2))
	one := a.Sign(text(5))
	b.Sign(text(5))
	want(t, "Sign, behind another's", a.Sign(text(5)), one)
	told(t, "Verify by the other's key", ed25519.Verify(b.Public(), one, text(5)), api.ErrSig)
	want(t, "another of the same seed", signer(t, drawn(1)).Sign(text(5)), one)
}

func TestNoSigner(t *testing.T) {
	var none *ed25519.Signer
	for what, s := range map[string]*ed25519.Signer{"a nil one": none, "a zero one": new(ed25519.Signer)} {
		sign := s.Sign
		for _, b := range [][]byte{s.Sign(), s.Sign(nil), s.Sign([]byte("text"), nil), s.Public(), sign([]byte("text"))} {
			if len(b) != 0 {
				t.Errorf("%s: %s", what, flat.Hex(b))
			}
		}
	}
}

// P9.4

func TestVerifyOfSigned(t *testing.T) {
	for i, seed := range seeds() {
		b := text(5 * i)
		key, sig := public(t, seed), signed(t, seed, b[:i], b[i:])
		if len(key) != 32 || len(sig) != 64 {
			t.Fatalf("%d and %d bytes", len(key), len(sig))
		}
		told(t, "Verify", ed25519.Verify(key, sig, b[:2*i], b[2*i:]), api.OK)
		told(t, "Verify of a Signer's", ed25519.Verify(key, signer(t, seed).Sign(b), b), api.OK)
		if !stdlib.Verify(key, b, sig) {
			t.Errorf("the library refuses %s", flat.Hex(sig))
		}
	}
}

// all is what sign tells of each of l.
func all(sign func(...[]byte) []byte, l [][]byte) [][]byte {
	var out [][]byte
	for _, b := range l {
		out = append(out, sign(b))
	}
	return out
}

// That a Signer's Sign may be handed on.
func TestSignAsAFunction(t *testing.T) {
	l := [][]byte{nil, text(1), text(2), text(300)}
	s := signer(t, drawn(1))
	sign := s.Sign
	s = signer(t, drawn(2))
	for i, sig := range all(sign, l) {
		want(t, "the method value", sig, signed(t, drawn(1), l[i]))
	}
	for i, sig := range all(s.Sign, l) {
		want(t, "the method value of another", sig, signed(t, drawn(2), l[i]))
	}
	want(t, "the method expression", (*ed25519.Signer).Sign(s, l[1], l[2]), signed(t, drawn(2), l[1], l[2]))
}

// held fails where one of l is not roomy any more as it was.
func held(t *testing.T, what string, l [][]byte, before [][]byte) {
	t.Helper()
	for i, b := range l {
		want(t, what+": what was handed in", whole(b), before[i])
	}
}

func TestNothingIsChangedOrKept(t *testing.T) {
	seed, b := drawn(1), text(40)
	key, sig := public(t, seed), signed(t, seed, b)
	pieces := append(make([][]byte, 0, 5), roomy(b[:20]...), roomy(b[20:]...))
	in := [][]byte{roomy(seed...), roomy(key...), roomy(sig...), pieces[0], pieces[1]}
	var before [][]byte
	for _, x := range in {
		before = append(before, slices.Clone(whole(x)))
	}
	ed25519.Public(in[0])
	held(t, "Public", in, before)
	ed25519.Sign(in[0], pieces...)
	held(t, "Sign", in, before)
	s, _ := ed25519.NewSigner(in[0])
	held(t, "NewSigner", in, before)
	s.Sign(pieces...)
	held(t, "a Signer's Sign", in, before)
	for _, piece := range pieces[:cap(pieces)][2:] {
		if piece != nil {
			t.Errorf("the list's spare room: %v", piece)
		}
	}
	told(t, "Verify", ed25519.Verify(in[1], in[2], pieces...), api.OK)
	held(t, "Verify", in, before)
	ed25519.Verify(in[1], in[2][:63], pieces...)
	ed25519.Verify(in[1][:31], in[2], pieces...)
	held(t, "a Verify that refuses", in, before)
	for _, x := range in {
		fill(x)
	}
	want(t, "Sign, behind a change of what was handed in", s.Sign(b), sig)
	want(t, "Public, behind a change of what was handed in", s.Public(), key)
}

func TestAnswersAreNewMemory(t *testing.T) {
	seed, b := drawn(1), text(40)
	s := signer(t, seed)
	for what, tell := range map[string]func() []byte{
		"Public":            func() []byte { return public(t, seed) },
		"Sign":              func() []byte { return signed(t, seed, b) },
		"a Signer's Sign":   func() []byte { return s.Sign(b) },
		"a Signer's Public": s.Public,
	} {
		one, two := tell(), tell()
		kept := slices.Clone(two)
		fill(one)
		want(t, what+", told before", two, kept)
		want(t, what+", told behind", tell(), kept)
		want(t, what+", a Signer's key", s.Sign(b), signed(t, seed, b))
	}
}
