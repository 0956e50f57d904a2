package mac_test

import (
	"bytes"
	"crypto/hkdf"
	"crypto/hmac"
	"crypto/sha256"
	"math"
	"slices"
	"testing"

	"missive/flat"
	"missive/mac"
	"missive/sha2"
)

// most is how many bytes Expand draws.
const most = 8160

// text is n bytes by a pattern that k turns.
func text(n, k int) []byte {
	out := make([]byte, n)
	for i := range out {
		out[i] = byte(i*k + i/251 + n)
	}
	return out
}

// run is n bytes from first on, each one more than that before it.
func run(first, n int) []byte {
	out := make([]byte, n)
	for i := range out {
		out[i] = byte(first + i)
	}
	return out
}

// many is n times the byte x.
func many(x byte, n int) []byte { return bytes.Repeat([]byte{x}, n) }

// otherMac is HMAC by another program than this one.
func otherMac(key, b []byte) []byte {
	h := hmac.New(sha256.New, key)
	h.Write(b)
	return h.Sum(nil)
}

// otherExpand is HKDF's Expand by another program than this one.
func otherExpand(t *testing.T, prk, info []byte, n int) []byte {
	t.Helper()
	out, err := hkdf.Expand(sha256.New, prk, string(info), n)
	if err != nil {
		t.Fatal(err)
	}
	return out
}

// otherDerive is HKDF by another program than this one.
func otherDerive(t *testing.T, salt, ikm, info []byte, n int) []byte {
	t.Helper()
	out, err := hkdf.Key(sha256.New, ikm, salt, string(info), n)
	if err != nil {
		t.Fatal(err)
	}
	return out
}

// want fails where got has other bytes.
func want(t *testing.T, what string, got, wanted []byte) {
	t.Helper()
	if !bytes.Equal(got, wanted) {
		t.Fatalf("%s:\n got %s\nwant %s", what, flat.Hex(got), flat.Hex(wanted))
	}
}

// none fails where got has bytes.
func none(t *testing.T, what string, got []byte) {
	t.Helper()
	if len(got) != 0 {
		t.Errorf("%s: %d bytes", what, len(got))
	}
}

// roomy is b with spare room behind it that a careless append would write to.
func roomy(b ...byte) []byte {
	return append(slices.Clone(b), 201, 202, 203, 204, 205, 206, 207, 208)[:len(b)]
}

// whole is b with its spare room.
func whole(b []byte) []byte { return b[:cap(b)] }

// fill overwrites b and its spare room.
func fill(b []byte) {
	for i := range whole(b) {
		whole(b)[i] = 99
	}
}

// P4.1

// RFC 4231's cases; the fifth gives the first 16 bytes alone.
func TestPublishedMacs(t *testing.T) {
	for i, c := range []struct {
		key  []byte
		text string
		sum  string
	}{
		{many(0x0b, 20), "Hi There", "b0344c61d8db38535ca8afceaf0bf12b881dc200c9833da726e9376c2e32cff7"},
		{[]byte("Jefe"), "what do ya want for nothing?", "5bdcc146bf60754e6a042426089575c75a003f089d2739839dec58b964ec3843"},
		{many(0xaa, 20), string(many(0xdd, 50)), "773ea91e36800e46854db8ebd09181a72959098b3ef8c122d9635514ced565fe"},
		{run(1, 25), string(many(0xcd, 50)), "82558a389a443c0ea4cc819899f2083a85f0faa3e578f8077a2e3ff46729665b"},
		{many(0x0c, 20), "Test With Truncation", "a3b6167473100ee06e0c796c2955552b"},
		{many(0xaa, 131), "Test Using Larger Than Block-Size Key - Hash Key First", "60e431591ee0b67f0d8a26aacbf5b77f8e0bc6213728c5140546040f0ee37f54"},
		{many(0xaa, 131), "This is a test using a larger than block-size key and a larger than block-size data. The key needs to be hashed before being used by the HMAC algorithm.", "9b09ffa71b942fcb27635fbcd5b0e944bfdc63644f0713938a7f51535c3a35e2"},
		{nil, "", "b613679a0814d9ec772f95d778c35fc5ff1697c493715653c6c712144292c5ad"},
	} {
		for _, got := range [][]byte{mac.Mac(c.key, []byte(c.text)), mac.NewKey(c.key).Mac([]byte(c.text))} {
			if len(got) != 32 || flat.Hex(got)[:len(c.sum)] != c.sum {
				t.Errorf("case %d: %s", i+1, flat.Hex(got))
			}
		}
	}
}

// All lengths of a key around a block's end: up to it the key stands as it is, behind it as its sum.
func TestMacsOfAllLengths(t *testing.T) {
	for n := range 300 {
		for _, key := range [][]byte{text(n, 3), make([]byte, n), many(0x36, n), many(0x5c, n), many(255, n)} {
			b := text(300-n, 7)
			want(t, "Mac", mac.Mac(key, b), otherMac(key, b))
			want(t, "Mac of no bytes", mac.Mac(key), otherMac(key, nil))
			want(t, "Extract", mac.Extract(key, b), otherMac(key, b))
			want(t, "Mac by a Key", mac.NewKey(key).Mac(b), otherMac(key, b))
		}
	}
}

func TestMacsOfSeveral(t *testing.T) {
	key, all := text(20, 3), text(300, 7)
	for _, l := range [][][]byte{nil, {}, {nil}, {nil, {}, nil}} {
		want(t, "Mac of nothing", mac.Mac(key, l...), otherMac(key, nil))
		want(t, "Mac of nothing, no key", mac.Mac(nil, l...), otherMac(nil, nil))
		want(t, "Mac of nothing by a Key", mac.NewKey(key).Mac(l...), otherMac(key, nil))
	}
	for step := 1; step <= len(all); step++ {
		l := slices.Insert(slices.Collect(slices.Chunk(all, step)), 1, nil, []byte{})
		want(t, "Mac", mac.Mac(key, l...), otherMac(key, all))
		want(t, "Mac by a Key", mac.NewKey(key).Mac(l...), otherMac(key, all))
	}
	want(t, "Mac in order", mac.Mac(key, []byte("ab"), []byte("c")), otherMac(key, []byte("abc")))
	want(t, "Mac turned about", mac.Mac(key, []byte("c"), []byte("ab")), otherMac(key, []byte("cab")))
}

// RFC 5869's first three cases, those with SHA-256.
func TestPublishedKeys(t *testing.T) {
	for i, c := range []struct {
		ikm, salt, info []byte
		prk, okm        string
	}{
		{many(0x0b, 22), run(0, 13), run(0xf0, 10),
			"077709362c2e32df0ddc3f0dc47bba6390b6c73bb50f9c3122ec844ad7c2b3e5",
			"3cb25f25faacd57a90434f64d0362f2a2d2d0a90cf1a5a4c5db02d56ecc4c5bf34007208d5b887185865"},
		{run(0, 80), run(0x60, 80), run(0xb0, 80),
			"06a6b88c5853361a06104c9ceb35b45cef760014904671014a193f40c15fc244",
			"b11e398dc80327a1c8e7f78c596a49344f012eda2d4efad8a050cc4c19afa97c59045a99cac7827271cb41c65e590e09da3275600c2f09b8367793a9aca3db71cc30c58179ec3e87c14c01d5c1f3434f1d87"},
		{many(0x0b, 22), nil, nil,
			"19ef24a32c717b167f33a91d6f648bdf96596776afdb6377ac434c1c293ccb04",
			"8da4e775a563c18f715f802a063c5a31b8a11f5c5ee1879ec3454e5f3c738d2d9d201395faa4b61a96c8"},
	} {
		n := len(c.okm) / 2
		prk := mac.Extract(c.salt, c.ikm)
		if flat.Hex(prk) != c.prk {
			t.Errorf("case %d: Extract: %s", i+1, flat.Hex(prk))
		}
		if got := flat.Hex(mac.Expand(prk, c.info, n)); got != c.okm {
			t.Errorf("case %d: Expand: %s", i+1, got)
		}
		if got := flat.Hex(mac.Derive(c.salt, c.ikm, c.info, n)); got != c.okm {
			t.Errorf("case %d: Derive: %s", i+1, got)
		}
	}
}

func TestNoSaltIsNoughts(t *testing.T) {
	for n := range 100 {
		ikm := text(n, 3)
		noughts := mac.Extract(make([]byte, 32), ikm)
		want(t, "Extract with nil", mac.Extract(nil, ikm), noughts)
		want(t, "Extract with no bytes", mac.Extract([]byte{}, ikm), noughts)
		want(t, "Extract by the library's", mac.Extract(nil, ikm), otherMac(make([]byte, 32), ikm))
		want(t, "Derive with nil", mac.Derive(nil, ikm, ikm, 70), mac.Derive(make([]byte, 32), ikm, ikm, 70))
	}
	want(t, "Extract of nothing", mac.Extract(nil, nil), mac.Mac(nil))
}

func TestExpandOfAllLengths(t *testing.T) {
	prk, info := text(32, 3), text(10, 7)
	for n := 1; n < 400; n++ {
		want(t, "Expand", mac.Expand(prk, info, n), otherExpand(t, prk, info, n))
		want(t, "Derive", mac.Derive(info, prk, info, n), otherDerive(t, info, prk, info, n))
	}
	for _, n := range []int{most - 33, most - 32, most - 31, most - 1, most} {
		want(t, "Expand of many", mac.Expand(prk, info, n), otherExpand(t, prk, info, n))
		want(t, "Derive of many", mac.Derive(info, prk, info, n), otherDerive(t, info, prk, info, n))
	}
	for n := range 200 {
		key, more := text(n, 3), text(200-n, 5)
		want(t, "Expand of a key of any length", mac.Expand(key, more, 70), otherExpand(t, key, more, 70))
		want(t, "Derive of lists of any length", mac.Derive(key, more, key, 70), otherDerive(t, key, more, key, 70))
	}
	want(t, "Expand of nothing", mac.Expand(nil, nil, 70), otherExpand(t, nil, nil, 70))
	want(t, "Derive of nothing", mac.Derive(nil, nil, nil, 70), otherDerive(t, nil, nil, nil, 70))
}

func TestExpandRefused(t *testing.T) {
	b := text(40, 3)
	for _, n := range []int{0, -1, -32, -most, math.MinInt32, math.MinInt, most + 1, most + 32, 1 << 20, math.MaxInt32, math.MaxInt} {
		none(t, "Expand", mac.Expand(b, b, n))
		none(t, "Expand of nothing", mac.Expand(nil, nil, n))
		none(t, "Derive", mac.Derive(b, b, b, n))
		none(t, "Derive of nothing", mac.Derive(nil, nil, nil, n))
	}
}

func TestDeriveIsExpandOfExtract(t *testing.T) {
	for n := range 100 {
		salt, ikm, info := text(n, 3), text(2*n, 5), text(3*n, 7)
		want(t, "Derive", mac.Derive(salt, ikm, info, n), mac.Expand(mac.Extract(salt, ikm), info, n))
	}
}

// P4.2

func TestKeyIsForMany(t *testing.T) {
	key := text(70, 3)
	k := mac.NewKey(key)
	for n := range 200 {
		b := text(n, 7)
		want(t, "Mac", k.Mac(b[:n/2], nil, b[n/2:]), mac.Mac(key, b))
		want(t, "Mac again", k.Mac(b), mac.Mac(key, b))
	}
}

func TestKeysHaveNothingInCommon(t *testing.T) {
	a, b := text(20, 3), text(90, 3)
	k, l := mac.NewKey(a), mac.NewKey(b)
	copied := *k
	*k = *mac.NewKey(text(5, 5))
	want(t, "the second", l.Mac(b), otherMac(b, b))
	want(t, "a copy of the first", copied.Mac(b), otherMac(a, b))
	want(t, "what stands in its place", k.Mac(b), otherMac(text(5, 5), b))
}

func TestMacIsHandedOn(t *testing.T) {
	key := text(40, 3)
	lay := mac.NewKey(key).Mac
	want(t, "the method value", lay([]byte("ab"), []byte("c")), otherMac(key, []byte("abc")))
	row := flat.Each([][]byte{[]byte("a"), nil}, func(b []byte) []byte { return lay(b) })
	want(t, "the first of a row", row[0], otherMac(key, []byte("a")))
	want(t, "the second of a row", row[1], otherMac(key, nil))
}

func TestNilKey(t *testing.T) {
	var k *mac.Key
	none(t, "Mac of nil", k.Mac())
	none(t, "Mac of nil, of no bytes", k.Mac(nil, nil))
	none(t, "Mac of nil, of bytes", k.Mac(text(100, 3), []byte{1}))
	lay := k.Mac
	none(t, "its method value", lay([]byte{1}))
}

// Of a Key that NewKey did not make the chapter says nothing: it may not panic, nor be something else than no key.
func TestZeroKey(t *testing.T) {
	var k mac.Key
	want(t, "Mac of a zero one", k.Mac([]byte("abc")), otherMac(nil, []byte("abc")))
	want(t, "Mac of a new one", new(mac.Key).Mac(), otherMac(nil, nil))
	want(t, "Mac of no key", mac.NewKey(nil).Mac(), otherMac(nil, nil))
}

// P4.3

func TestShorterIsTheBeginning(t *testing.T) {
	prk, info := text(32, 5), text(50, 3)
	long := mac.Expand(prk, info, most)
	derived := mac.Derive(prk, info, prk, most)
	if len(long) != most || len(derived) != most {
		t.Fatalf("%d and %d bytes", len(long), len(derived))
	}
	for n := 1; n < most; n += 1 + n/50 {
		want(t, "Expand", mac.Expand(prk, info, n), long[:n])
		want(t, "Derive", mac.Derive(prk, info, prk, n), derived[:n])
	}
}

func TestNothingIsChanged(t *testing.T) {
	for _, n := range []int{3, 64, 65, 130} {
		a, b, c := roomy(text(n, 3)...), roomy(1, 2), roomy(text(n, 5)...)
		row := [][]byte{b, c, {7}}[:2]
		mac.Mac(a, row...)
		mac.NewKey(a).Mac(row...)
		mac.Extract(a, b)
		mac.Expand(a, c, 100)
		mac.Expand(b, a, 100)
		mac.Derive(a, b, c, 100)
		mac.Derive(c, a, b, 100)
		want(t, "the first list", whole(a), whole(roomy(text(n, 3)...)))
		want(t, "the second list", whole(b), whole(roomy(1, 2)))
		want(t, "the third list", whole(c), whole(roomy(text(n, 5)...)))
		want(t, "what stands behind the row", row[:3][2], []byte{7})
		want(t, "the row's first", row[0], []byte{1, 2})
		want(t, "the row's second", row[1], text(n, 5))
	}
}

func TestNothingIsKept(t *testing.T) {
	for _, n := range []int{1, 63, 64, 65, 200} {
		key := roomy(text(n, 3)...)
		b := roomy(text(n, 7)...)
		row := [][]byte{b}
		k := mac.NewKey(key)
		fill(key)
		want(t, "Mac", k.Mac(row...), otherMac(text(n, 3), text(n, 7)))
		fill(b)
		row[0] = nil
		want(t, "Mac again", k.Mac(text(n, 7)), otherMac(text(n, 3), text(n, 7)))
	}
}

func TestAnswersAreNewMemory(t *testing.T) {
	b := text(70, 3)
	k := mac.NewKey(b)
	for _, f := range []func() []byte{
		func() []byte { return mac.Mac(b, b) },
		func() []byte { return mac.Extract(b, b) },
		func() []byte { return mac.Expand(b, b, 100) },
		func() []byte { return mac.Expand(b, b, 32) },
		func() []byte { return mac.Derive(b, b, b, 5) },
		func() []byte { return k.Mac(b) },
		func() []byte { return k.Mac() },
	} {
		one, two := f(), f()
		kept := slices.Clone(two)
		fill(one)
		want(t, "the same behind a change of the first", two, kept)
		want(t, "one made behind it", f(), kept)
	}
	want(t, "what was handed in", b, text(70, 3))
	want(t, "the key", k.Mac(b), otherMac(b, b))
}

// That the parts are those of RFC 2104, written out by hand.
func TestMacByItsParts(t *testing.T) {
	key := text(20, 9)
	padded := flat.Cat(key, make([]byte, 44))
	inner := sha2.Sum256(flat.Xor(padded, many(0x36, 64)), []byte("abc"))
	want(t, "Mac", mac.Mac(key, []byte("abc")), sha2.Sum256(flat.Xor(padded, many(0x5c, 64)), inner))
}
