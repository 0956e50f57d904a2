package x25519_test

import (
	"bytes"
	"crypto/ecdh"
	"math/big"
	"slices"
	"testing"

	"missive/api"
	"missive/flat"
	"missive/sha2"
	"missive/x25519"
)

// unhex is the bytes of a text of the RFC.
func unhex(t *testing.T, s string) []byte {
	t.Helper()
	out, ok := flat.Unhex(s)
	if !ok {
		t.Fatalf("no hex: %s", s)
	}
	return out
}

// drawn is 32 bytes that look like chance, others for each k.
func drawn(k int) []byte { return sha2.Sum256(flat.Put32(uint32(k)), []byte("x25519")) }

// many is n times the byte x.
func many(x byte, n int) []byte { return bytes.Repeat([]byte{x}, n) }

// filled is b's first 32 bytes, with noughts for those that are wanting.
func filled(b []byte) []byte { return append(slices.Clone(b), make([]byte, 32)...)[:32] }

// raised is b with its highest bit turned about.
func raised(b []byte) []byte {
	out := slices.Clone(b)
	out[31] ^= 128
	return out
}

// form is 2^k and d, in 32 bytes, the least first.
func form(k uint, d int64) []byte {
	n := new(big.Int).Add(new(big.Int).Lsh(big.NewInt(1), k), big.NewInt(d))
	out := n.FillBytes(make([]byte, 32))
	slices.Reverse(out)
	return out
}

// other is X25519 by another program than this one: 32 noughts where that refuses to tell them.
func other(t *testing.T, secret, public []byte) []byte {
	t.Helper()
	key, err := ecdh.X25519().NewPrivateKey(secret)
	if err != nil {
		t.Fatal(err)
	}
	point, err := ecdh.X25519().NewPublicKey(public)
	if err != nil {
		t.Fatal(err)
	}
	out, err := key.ECDH(point)
	if err != nil {
		return make([]byte, 32)
	}
	return out
}

// secrets are some of 32 bytes: those at the edges, and many between.
func secrets() [][]byte {
	out := [][]byte{make([]byte, 32), many(255, 32), many(0x55, 32), many(0xaa, 32), filled([]byte{7}), filled([]byte{8}), form(254, 0), form(255, -8), form(252, 0)}
	for k := range 20 {
		out = append(out, drawn(k))
	}
	return out
}

// publics are some of 32 bytes: small ones, those around p and around the highest bit, points of the curve, and many of which half are of its twist.
func publics() [][]byte {
	var out [][]byte
	for d := range int64(22) {
		out = append(out, filled([]byte{byte(d)}), form(255, d-20), raised(form(255, -1-d)))
	}
	for _, k := range []uint{64, 128, 192, 254} {
		out = append(out, form(k, -1), form(k, 0))
	}
	for k := range 20 {
		out = append(out, drawn(100+k), raised(drawn(100+k)), x25519.Base(drawn(200+k)))
	}
	return append(out, many(255, 32))
}

// smallPoints are all numbers below 2^255 whose points, of the curve or of its twist, have an order that divides 8.
func smallPoints(t *testing.T) [][]byte {
	return [][]byte{
		make([]byte, 32),
		filled([]byte{1}),
		unhex(t, "e0eb7a7c3b41b8ae1656e3faf19fc46ada098deb9c32b1fd866205165f49b800"),
		unhex(t, "5f9c95bca3508c24b1d0b1559c83ef5b04445cc4581c8e86d8224eddd09f1157"),
		form(255, -20), form(255, -19), form(255, -18),
	}
}

// want fails where got has other bytes.
func want(t *testing.T, what string, got, wanted []byte) {
	t.Helper()
	if !bytes.Equal(got, wanted) {
		t.Fatalf("%s:\n got %s\nwant %s", what, flat.Hex(got), flat.Hex(wanted))
	}
}

// shared fails where Shared refuses both.
func shared(t *testing.T, what string, secret, public []byte) []byte {
	t.Helper()
	out, e := x25519.Shared(secret, public)
	if e != api.OK {
		t.Fatalf("%s: error %d", what, e)
	}
	return out
}

// refused fails where Shared tells another error than wanted, or bytes beside it.
func refused(t *testing.T, what string, secret, public []byte, wanted api.Errno) {
	t.Helper()
	if out, e := x25519.Shared(secret, public); e != wanted || len(out) != 0 {
		t.Errorf("%s: error %d, %d bytes beside it", what, e, len(out))
	}
}

// roomy is b with spare room behind it that a careless append would write to.
func roomy(b ...byte) []byte {
	return append(slices.Clone(b), 201, 202, 203, 204, 205, 206, 207, 208)[: len(b) : len(b)+8]
}

// whole is b with its spare room.
func whole(b []byte) []byte { return b[:cap(b)] }

// fill overwrites b and its spare room.
func fill(b []byte) {
	for i := range whole(b) {
		whole(b)[i] = 99
	}
}

// P6.1

func TestClamp(t *testing.T) {
	for x := range 256 {
		b := many(byte(x), 32)
		wanted := slices.Clone(b)
		wanted[0] = byte(x / 8 * 8)
		wanted[31] = byte(64 + x%64)
		want(t, "Clamp", x25519.Clamp(b), wanted)
		want(t, "Clamp of what was clamped", x25519.Clamp(wanted), wanted)
	}
	want(t, "Clamp of RFC 7748's", x25519.Clamp(unhex(t, "a546e36bf0527c9d3b16154b82465edd62144c0ac1fc5a18506a2244ba449ac4")),
		unhex(t, "a046e36bf0527c9d3b16154b82465edd62144c0ac1fc5a18506a2244ba449a44"))
}

func TestClampOfOtherLengths(t *testing.T) {
	b := append(drawn(0), drawn(1)...)
	for n := range 32 {
		want(t, "Clamp of a shorter one", x25519.Clamp(b[:n]), x25519.Clamp(filled(b[:n])))
	}
	for n := 32; n <= 64; n++ {
		want(t, "Clamp of a longer one", x25519.Clamp(b[:n]), x25519.Clamp(b[:32]))
	}
	want(t, "Clamp of nil", x25519.Clamp(nil), form(254, 0))
	want(t, "Clamp of no bytes", x25519.Clamp([]byte{}), form(254, 0))
	want(t, "Clamp of one byte", x25519.Clamp([]byte{255}), form(254, 248))
}

// RFC 7748, 5.2; in the second the highest bit of the public one is set.
func TestPublishedProducts(t *testing.T) {
	for _, c := range [][3]string{
		{"a546e36bf0527c9d3b16154b82465edd62144c0ac1fc5a18506a2244ba449ac4", "e6db6867583030db3594c1a424b15f7c726624ec26b3353b10a903a6d0ab1c4c", "c3da55379de9c6908e94ea4df28d084f32eccf03491c71f754b4075577a28552"},
		{"4b66e9d4d1b4673c5ad22691957d6af5c11b6421e0ea01d42ca4169e7918ba0d", "e5210f12786811d3f4b7959d0538ae2c31dbe7106fc03c3efc4cd549c715a493", "95cbde9476e8907d7aade45cb4b873f88b595a68799fa152e6f8f7647aac7957"},
	} {
		secret, public := unhex(t, c[0]), unhex(t, c[1])
		want(t, "Mult", x25519.Mult(secret, public), unhex(t, c[2]))
		want(t, "Shared", shared(t, "Shared", secret, public), unhex(t, c[2]))
		want(t, "Mult of the clamped one", x25519.Mult(x25519.Clamp(secret), public), unhex(t, c[2]))
		want(t, "Mult without the highest bit", x25519.Mult(secret, raised(public)), unhex(t, c[2]))
	}
}

// RFC 7748, 5.2: each one the next secret, and each secret the next public one.
func TestPublishedProductsInARow(t *testing.T) {
	secret := filled([]byte{9})
	public := secret
	for i := range 1000 {
		secret, public = x25519.Mult(secret, public), secret
		if i == 0 {
			want(t, "behind one", secret, unhex(t, "422c8e7a6227d7bca1350b3e2bb7279f7897b87bb6854b783c60e80311ae3079"))
		}
	}
	want(t, "behind a thousand", secret, unhex(t, "684cf59ba83309552800ef566f2f4d3c1c3887c49360e3875f2eb94d99532c51"))
}

// RFC 7748, 6.1.
func TestPublishedKeys(t *testing.T) {
	a := unhex(t, "77076d0a7318a57d3c16c17251b26645df4c2f87ebc0992ab177fba51db92c2a")
	b := unhex(t, "5dab087e624a8a4b79e17f8b83800ee66f3bb1292618b6fd1c2f8b27ff88e0eb")
	publicA := unhex(t, "8520f0098930a754748b7ddcb43ef75a0dbf3a0d26381af4eba4a98eaa9b4e6a")
	publicB := unhex(t, "de9edb7d7b7dc1b4d35b61c2ece435373f8343c85b78674dadfc7e146f882b4f")
	both := unhex(t, "4a5d9d5ba4ce2de1728e3bf480350f25e07e21c947d19e3376f09b3c1e161742")
	want(t, "Base of the first", x25519.Base(a), publicA)
	want(t, "Base of the second", x25519.Base(b), publicB)
	want(t, "Shared by the first", shared(t, "the first", a, publicB), both)
	want(t, "Shared by the second", shared(t, "the second", b, publicA), both)
}

func TestMult(t *testing.T) {
	for _, secret := range secrets() {
		for _, public := range publics() {
			got := x25519.Mult(secret, public)
			want(t, "Mult of "+flat.Hex(secret)+" and "+flat.Hex(public), got, other(t, secret, public))
			if len(got) != 32 {
				t.Fatalf("%d bytes", len(got))
			}
		}
		want(t, "Base", x25519.Base(secret), other(t, secret, filled([]byte{9})))
	}
}

// Nothing hangs on the five digits of a secret that clamping sets, nor on the highest one of a public key, nor on which of its two forms it has.
func TestMultPassesOver(t *testing.T) {
	public := drawn(5)
	for k := range 8 {
		for _, i := range []int{0, 31} {
			turned := drawn(6)
			turned[i] ^= 1 << k
			same := flat.Equal(x25519.Mult(turned, public), x25519.Mult(drawn(6), public))
			if passed := i == 0 && k < 3 || i == 31 && k > 5; same != passed {
				t.Errorf("byte %d, bit %d: the same %t", i, k, same)
			}
		}
	}
	want(t, "the highest bit", x25519.Mult(drawn(6), raised(public)), x25519.Mult(drawn(6), public))
	for d := range int64(19) {
		want(t, "p and more", x25519.Mult(drawn(6), form(255, d-19)), x25519.Mult(drawn(6), filled([]byte{byte(d)})))
	}
}

func TestMultOfOtherLengths(t *testing.T) {
	a, b := append(drawn(0), drawn(1)...), append(drawn(2), drawn(3)...)
	for n := 0; n <= 64; n++ {
		cut := a[:n]
		want(t, "Mult of another secret", x25519.Mult(cut, b[:32]), other(t, filled(cut), b[:32]))
		want(t, "Base of another secret", x25519.Base(cut), other(t, filled(cut), filled([]byte{9})))
		want(t, "Mult of another public one", x25519.Mult(a[:32], b[:n]), other(t, a[:32], filled(b[:n])))
		want(t, "Mult of both others", x25519.Mult(cut, b[:64-n]), other(t, filled(cut), filled(b[:64-n])))
	}
	want(t, "Mult of nil", x25519.Mult(nil, nil), make([]byte, 32))
	want(t, "Mult of a nil public one", x25519.Mult(a, nil), make([]byte, 32))
	want(t, "Mult of a nil secret", x25519.Mult(nil, []byte{9}), other(t, make([]byte, 32), filled([]byte{9})))
	want(t, "Base of nil", x25519.Base(nil), x25519.Mult(make([]byte, 32), []byte{9}))
}

func TestBaseIsMultOfNine(t *testing.T) {
	for _, secret := range secrets() {
		want(t, "Base", x25519.Base(secret), x25519.Mult(secret, []byte{9}))
		want(t, "Base, with noughts", x25519.Base(secret), x25519.Mult(secret, filled([]byte{9})))
	}
}

// A small order comes to noughts, since a clamped secret is a multiple of 8.
func TestMultOfSmallPoints(t *testing.T) {
	for _, public := range smallPoints(t) {
		for _, secret := range secrets() {
			want(t, "Mult", x25519.Mult(secret, public), make([]byte, 32))
			want(t, "Mult, with the highest bit", x25519.Mult(secret, raised(public)), make([]byte, 32))
		}
	}
}

// P6.2

func TestSharedIsMult(t *testing.T) {
	for i, secret := range secrets() {
		for _, public := range [][]byte{drawn(100 + i), raised(drawn(100 + i)), x25519.Base(drawn(i)), many(255, 32), form(255, -17), filled([]byte{2})} {
			want(t, "Shared", shared(t, "Shared", secret, public), x25519.Mult(secret, public))
		}
	}
}

func TestSharedOfOtherLengths(t *testing.T) {
	long := append(drawn(0), drawn(1)...)
	for n := 0; n <= 64; n++ {
		if n == 32 {
			continue
		}
		refused(t, "the secret", long[:n], drawn(2), api.ErrArg)
		refused(t, "the public one", drawn(2), long[:n], api.ErrArg)
		refused(t, "both", long[:n], long[:n], api.ErrArg)
		refused(t, "both, 64 bytes in all", long[:n], long[:64-n], api.ErrArg)
		// Which is a point of small order, too: the length is looked at first.
		refused(t, "a public one of noughts", drawn(2), make([]byte, n), api.ErrArg)
		refused(t, "the secret, with a public one of noughts", long[:n], make([]byte, 32), api.ErrArg)
	}
	refused(t, "nil", nil, nil, api.ErrArg)
	refused(t, "a nil secret", nil, drawn(2), api.ErrArg)
	refused(t, "a nil public one", drawn(2), nil, api.ErrArg)
}

func TestSharedOfSmallPoints(t *testing.T) {
	for _, public := range smallPoints(t) {
		for _, secret := range secrets() {
			refused(t, "a small order", secret, public, api.ErrPoint)
			refused(t, "a small order, with the highest bit", secret, raised(public), api.ErrPoint)
		}
	}
}

// P6.3

func TestSharedByBoth(t *testing.T) {
	l := secrets()
	for i, a := range l {
		for _, b := range l[i:] {
			one := shared(t, "one", a, x25519.Base(b))
			want(t, "Shared turned about", shared(t, "the other", b, x25519.Base(a)), one)
			want(t, "Mult turned about", x25519.Mult(b, x25519.Base(a)), one)
		}
	}
	// And of any point, not the base alone.
	for k := range 20 {
		a, b, public := drawn(k), drawn(50+k), drawn(100+k)
		want(t, "one behind the other", x25519.Mult(a, x25519.Mult(b, public)), x25519.Mult(b, x25519.Mult(a, public)))
	}
}

// answers are all that is told of a secret and a public one.
func answers(secret, public []byte) [][]byte {
	out, _ := x25519.Shared(secret, public)
	return [][]byte{x25519.Clamp(secret), x25519.Mult(secret, public), x25519.Base(secret), out}
}

func TestNothingIsChangedOrKept(t *testing.T) {
	for _, n := range []int{0, 5, 31, 32, 33, 40} {
		secret, public := roomy(many(0xfd, n)...), roomy(many(0xfe, n)...)
		got := answers(secret, public)
		want(t, "the secret", whole(secret), whole(roomy(many(0xfd, n)...)))
		want(t, "the public one", whole(public), whole(roomy(many(0xfe, n)...)))
		fill(secret)
		fill(public)
		for i, b := range answers(many(0xfd, n), many(0xfe, n)) {
			want(t, "an answer behind a change of what was handed in", got[i], b)
		}
	}
	both := roomy(drawn(7)...)
	answers(both, both)
	want(t, "one list handed in as both", whole(both), whole(roomy(drawn(7)...)))
}

func TestAnswersAreNewMemory(t *testing.T) {
	secret, public := x25519.Clamp(drawn(0)), drawn(1)
	got, kept := answers(secret, public), answers(secret, public)
	for _, b := range got {
		fill(b)
	}
	for i, b := range answers(secret, public) {
		want(t, "one made behind a change of the first", b, kept[i])
	}
	want(t, "the secret", secret, x25519.Clamp(drawn(0)))
	want(t, "the public one", public, drawn(1))
}
