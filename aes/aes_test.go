package aes_test

import (
	"bytes"
	stdaes "crypto/aes"
	"crypto/cipher"
	"math"
	"slices"
	"testing"

	"missive/aes"
	"missive/api"
	"missive/flat"
	"missive/sha2"
)

// most is how many bytes a stream has at most.
const most = 1 << 20

// seed is 32 bytes that have that name and number.
func seed(name string, k int) []byte { return sha2.Sum256(flat.Put32(uint32(k)), []byte(name)) }

// told fails where e is not wanted.
func told(t *testing.T, what string, e, wanted api.Errno) {
	t.Helper()
	if e != wanted {
		t.Fatalf("%s: got %d, want %d", what, e, wanted)
	}
}

// want fails where got is not wanted.
func want(t *testing.T, what string, got, wanted []byte) {
	t.Helper()
	if !bytes.Equal(got, wanted) {
		t.Fatalf("%s:\n got %s\nwant %s", what, flat.Hex(got), flat.Hex(wanted))
	}
}

// hex is the bytes of a text of hex digits; spaces part them.
func hex(t *testing.T, s string) []byte {
	t.Helper()
	b, ok := flat.Unhex(string(bytes.ReplaceAll([]byte(s), []byte(" "), nil)))
	if !ok {
		t.Fatalf("%q is no hex", s)
	}
	return b
}

// block is Block of what may be.
func block(t *testing.T, key, b []byte) []byte {
	t.Helper()
	out, e := aes.Block(key, b)
	told(t, "Block", e, api.OK)
	return out
}

// stream is Stream of what may be.
func stream(t *testing.T, key, nonce []byte, n int) []byte {
	t.Helper()
	out, e := aes.Stream(key, nonce, n)
	told(t, "Stream", e, api.OK)
	return out
}

// crypt is Crypt of what may be.
func crypt(t *testing.T, key, nonce, b []byte) []byte {
	t.Helper()
	out, e := aes.Crypt(key, nonce, b)
	told(t, "Crypt", e, api.OK)
	return out
}

// other is another program's AES-256.
func other(t *testing.T, key []byte) cipher.Block {
	t.Helper()
	c, e := stdaes.NewCipher(key)
	if e != nil {
		t.Fatal(e)
	}
	return c
}

// otherBlock is another program's block.
func otherBlock(t *testing.T, key, b []byte) []byte {
	t.Helper()
	out := make([]byte, 16)
	other(t, key).Encrypt(out, b)
	return out
}

// otherCrypt is another program's counter mode, from 0 on.
func otherCrypt(t *testing.T, key, nonce, b []byte) []byte {
	t.Helper()
	out := make([]byte, len(b))
	cipher.NewCTR(other(t, key), flat.Cat(nonce, make([]byte, 4))).XORKeyStream(out, b)
	return out
}

// counting is n bytes: 0, 1, 2 and on.
func counting(n int) []byte {
	out := make([]byte, n)
	for i := range out {
		out[i] = byte(i)
	}
	return out
}

// single is n bytes of which that bit alone is set.
func single(n, bit int) []byte {
	out := make([]byte, n)
	out[bit/8] = 128 >> (bit % 8)
	return out
}

// ones is n bytes of all bits.
func ones(n int) []byte { return bytes.Repeat([]byte{255}, n) }

// lengths are those around the right one, and others.
func lengths(right int) []int {
	return []int{0, 1, 4, right / 2, right - 8, right - 1, right + 1, right + 4, right + 8, 2 * right, 65 * right}
}

// ofLength is b cut, or with noughts behind it.
func ofLength(b []byte, n int) []byte {
	return append(slices.Clone(b), make([]byte, n)...)[:n]
}

// P12.1

// boxTable is FIPS 197's figure of the S-box, row by row.
const boxTable = "" +
	"637c777bf26b6fc53001672bfed7ab76" + "ca82c97dfa5947f0add4a2af9ca472c0" +
	"b7fd9326363ff7cc34a5e5f171d83115" + "04c723c31896059a071280e2eb27b275" +
	"09832c1a1b6e5aa0523bd6b329e32f84" + "53d100ed20fcb15b6acbbe394a4c58cf" +
	"d0efaafb434d338545f9027f503c9fa8" + "51a3408f929d38f5bcb6da2110fff3d2" +
	"cd0c13ec5f974417c4a77e3d645d1973" + "60814fdc222a908846eeb814de5e0bdb" +
	"e0323a0a4906245cc2d3ac629195e479" + "e7c8376d8dd54ea96c56f4ea657aae08" +
	"ba78252e1ca6b4c6e8dd741f4bbd8b8a" + "703eb5664803f60e613557b986c11d9e" +
	"e1f8981169d98e949b1e87e9ce5528df" + "8ca1890dbfe6426841992d0fb054bb16"

func TestBoxIsTheTable(t *testing.T) {
	var got []byte
	for x := range 256 {
		got = append(got, aes.Box(byte(x)))
	}
	want(t, "the box", got, hex(t, boxTable))
}

// times is the product of FIPS 197's numbers x and y, by long multiplication and division.
func times(x, y byte) byte {
	product := 0
	for k := range 8 {
		if y>>k&1 == 1 {
			product ^= int(x) << k
		}
	}
	for k := 7; k >= 0; k-- {
		if product>>(k+8)&1 == 1 {
			product ^= 0x11b << k
		}
	}
	return byte(product)
}

// turnedAbout is FIPS 197's affine transformation, bit by bit.
func turnedAbout(x byte) byte {
	out := byte(0)
	for i := range 8 {
		bit := byte(0x63) >> i
		for _, k := range []int{0, 4, 5, 6, 7} {
			bit ^= x >> ((i + k) % 8)
		}
		out |= bit & 1 << i
	}
	return out
}

func TestBoxIsAnInverseTurnedAbout(t *testing.T) {
	for x := range 256 {
		inverse := byte(0)
		for y := range 256 {
			if times(byte(x), byte(y)) == 1 {
				inverse = byte(y)
			}
		}
		if got := aes.Box(byte(x)); got != turnedAbout(inverse) {
			t.Errorf("Box(%x): got %x, want %x", x, got, turnedAbout(inverse))
		}
	}
}

func TestBlockOfTheStandards(t *testing.T) {
	const key38a = "603deb1015ca71be2b73aef0857d7781 1f352c073b6108d72d9810a30914dff4"
	for _, c := range []struct{ what, key, text, box string }{
		{"FIPS 197, C.3", flat.Hex(counting(32)), "00112233445566778899aabbccddeeff", "8ea2b7ca516745bfeafc49904b496089"},
		{"SP 800-38A, F.1.5, 1", key38a, "6bc1bee22e409f96e93d7e117393172a", "f3eed1bdb5d2a03c064b5a7e3db181f8"},
		{"SP 800-38A, F.1.5, 2", key38a, "ae2d8a571e03ac9c9eb76fac45af8e51", "591ccb10d410ed26dc5ba74a31362870"},
		{"SP 800-38A, F.1.5, 3", key38a, "30c81c46a35ce411e5fbc1191a0a52ef", "b6ed21b99ca6f4f9f153e7b1beafed1d"},
		{"SP 800-38A, F.1.5, 4", key38a, "f69f2445df4f9b17ad2b417be66c3710", "23304b7a39f9f3ff067d8d8f9e24ecc7"},
		{"noughts", flat.Hex(make([]byte, 32)), flat.Hex(make([]byte, 16)), "dc95c078a2408989ad48a21492842087"},
	} {
		want(t, c.what, block(t, hex(t, c.key), hex(t, c.text)), hex(t, c.box))
	}
}

func TestBlockIsTheLibrarys(t *testing.T) {
	for k := range 500 {
		key, text := seed("key", k), seed("text", k)[:16]
		want(t, "Block", block(t, key, text), otherBlock(t, key, text))
	}
	for _, key := range [][]byte{make([]byte, 32), ones(32), counting(32)} {
		for _, text := range [][]byte{make([]byte, 16), ones(16), counting(16)} {
			want(t, "Block of an edge", block(t, key, text), otherBlock(t, key, text))
		}
	}
}

func TestBlockOfSingleBits(t *testing.T) {
	noughts := make([]byte, 32)
	for bit := range 256 {
		key := single(32, bit)
		want(t, "a bit of the key", block(t, key, noughts[:16]), otherBlock(t, key, noughts[:16]))
	}
	for bit := range 128 {
		text := single(16, bit)
		want(t, "a bit of the block", block(t, noughts, text), otherBlock(t, noughts, text))
	}
}

// Each block is that of the one before, and the key goes on too.
func TestBlocksInARow(t *testing.T) {
	key, text := seed("row", 0), seed("row", 1)[:16]
	for range 1000 {
		next := block(t, key, text)
		want(t, "Block", next, otherBlock(t, key, text))
		key, text = flat.Cat(key[16:], text), next
	}
}

func TestBlockRefuses(t *testing.T) {
	key, text := seed("key", 0), seed("text", 0)[:16]
	refused := func(key, text []byte) {
		t.Helper()
		out, e := aes.Block(key, text)
		told(t, "Block", e, api.ErrArg)
		if len(out) != 0 {
			t.Fatal("a block beside an error")
		}
	}
	refused(nil, nil)
	refused(nil, text)
	refused(key, nil)
	refused(text, key)
	for _, n := range lengths(32) {
		refused(ofLength(key, n), text)
	}
	for _, n := range lengths(16) {
		refused(key, ofLength(text, n))
		refused(ofLength(key, n), ofLength(text, n))
	}
}

// P12.2

// RFC 3686 counts from 1 on: what it has stands a block behind the beginning.
func TestStreamOfTheStandard(t *testing.T) {
	for _, c := range []struct{ what, key, nonce, text, box string }{
		{"RFC 3686, 7", "776beff2851db06f4c8a0542c8696f6c6a81af1eec96b4d37fc1d689e6c1c104", "00000060 db5672c97aa8f0b2",
			"53696e676c6520626c6f636b206d7367", "145ad01dbf824ec7560863dc71e3e0c0"},
		{"RFC 3686, 8", "f6d66d6bd52d59bb0796365879eff886c66dd51a5b6a99744b50590c87a23884", "00faac24 c1585ef15a43d875",
			flat.Hex(counting(32)), "f05e231b3894612c49ee000b804eb2a9b8306b508f839d6a5530831d9344af1c"},
		{"RFC 3686, 9", "ff7a617ce69148e4f1726e2f43581de2aa62d9f805532edff1eed687fb54153d", "001cc5b7 51a51d70a1c11148",
			flat.Hex(counting(36)), "eb6c52821d0bbbf7ce7594462aca4faab407df866569fd07f48cc0b583d6071f1ec0e6b8"},
	} {
		text := hex(t, c.text)
		s := stream(t, hex(t, c.key), hex(t, c.nonce), 16+len(text))
		want(t, c.what, flat.Xor(s[16:], text), hex(t, c.box))
	}
}

func TestStreamIsOfBlocks(t *testing.T) {
	key, nonce := seed("key", 1), seed("nonce", 1)[:12]
	var blocks []byte
	for count := range 300 {
		blocks = append(blocks, block(t, key, flat.Cat(nonce, flat.Put32(uint32(count))))...)
	}
	for n := range 100 {
		want(t, "Stream", stream(t, key, nonce, n), blocks[:n])
	}
	for n := 16; n <= len(blocks); n += 16 {
		want(t, "Stream ahead of a block's end", stream(t, key, nonce, n-1), blocks[:n-1])
		want(t, "Stream at a block's end", stream(t, key, nonce, n), blocks[:n])
		want(t, "Stream behind a block's end", stream(t, key, nonce, n-15), blocks[:n-15])
	}
}

// The edges are nonces of noughts, of all bits, and of the one bit that is next to the counter.
func TestStreamIsTheLibrarys(t *testing.T) {
	for k := range 50 {
		key, nonce := seed("key", k), seed("nonce", k)[:12]
		want(t, "Stream", stream(t, key, nonce, 40*k), otherCrypt(t, key, nonce, make([]byte, 40*k)))
	}
	for _, nonce := range [][]byte{make([]byte, 12), ones(12), counting(12), single(12, 95)} {
		want(t, "Stream of an edge", stream(t, ones(32), nonce, 5000), otherCrypt(t, ones(32), nonce, make([]byte, 5000)))
	}
}

// The longest one counts to 65535.
func TestLongStreams(t *testing.T) {
	key, nonce := seed("key", 2), seed("nonce", 2)[:12]
	all := otherCrypt(t, key, nonce, make([]byte, most))
	for _, n := range []int{4095, 4096, 4097, 1 << 16, most - 17, most - 16, most - 1, most} {
		if got := stream(t, key, nonce, n); !bytes.Equal(got, all[:n]) {
			t.Errorf("Stream of %d bytes", n)
		}
	}
}

func TestStreamRefuses(t *testing.T) {
	key, nonce := seed("key", 3), seed("nonce", 3)[:12]
	refused := func(key, nonce []byte, n int) {
		t.Helper()
		out, e := aes.Stream(key, nonce, n)
		told(t, "Stream", e, api.ErrArg)
		if len(out) != 0 {
			t.Fatal("a stream beside an error")
		}
	}
	for _, n := range []int{-1, -16, most + 1, most + 16, 1 << 32, math.MinInt, math.MaxInt} {
		refused(key, nonce, n)
	}
	for _, n := range []int{0, 1, 16, most} {
		refused(nil, nonce, n)
		refused(key, nil, n)
		refused(nil, nil, n)
	}
	for _, n := range lengths(32) {
		refused(ofLength(key, n), nonce, 20)
	}
	for _, n := range lengths(12) {
		refused(key, ofLength(nonce, n), 20)
		refused(ofLength(key, n), ofLength(nonce, n), 0)
	}
	if got := stream(t, key, nonce, 0); len(got) != 0 {
		t.Errorf("Stream of 0 bytes: %v", got)
	}
}

func TestCryptIsTheLibrarys(t *testing.T) {
	for n := range 130 {
		key, nonce, text := seed("key", n), seed("nonce", n)[:12], counting(n)
		got := crypt(t, key, nonce, text)
		want(t, "Crypt", got, otherCrypt(t, key, nonce, text))
		want(t, "Crypt by Stream", got, flat.Xor(text, stream(t, key, nonce, n)))
		want(t, "Crypt of noughts", crypt(t, key, nonce, make([]byte, n)), stream(t, key, nonce, n))
	}
	key, nonce, text := seed("key", 4), seed("nonce", 4)[:12], counting(most)
	if !bytes.Equal(crypt(t, key, nonce, text), otherCrypt(t, key, nonce, text)) {
		t.Error("Crypt of the longest text")
	}
}

func TestCryptRefuses(t *testing.T) {
	key, nonce, text := seed("key", 5), seed("nonce", 5)[:12], counting(20)
	refused := func(key, nonce, text []byte) {
		t.Helper()
		out, e := aes.Crypt(key, nonce, text)
		told(t, "Crypt", e, api.ErrArg)
		if len(out) != 0 {
			t.Fatal("bytes beside an error")
		}
	}
	refused(nil, nil, nil)
	refused(nil, nonce, text)
	refused(key, nil, text)
	refused(key, nonce, make([]byte, most+1))
	for _, n := range lengths(32) {
		refused(ofLength(key, n), nonce, text)
	}
	for _, n := range lengths(12) {
		refused(key, ofLength(nonce, n), text)
		refused(key, ofLength(nonce, n), nil)
	}
	if got := crypt(t, key, nonce, nil); len(got) != 0 {
		t.Errorf("Crypt of no bytes: %v", got)
	}
}

// P12.3

func TestCryptTwice(t *testing.T) {
	key, nonce := seed("key", 6), seed("nonce", 6)[:12]
	for n := range 100 {
		text := ofLength(seed("text", n), n)
		want(t, "Crypt of Crypt", crypt(t, key, nonce, crypt(t, key, nonce, text)), text)
	}
}

// roomy is b with spare room behind it that a careless append would write to.
func roomy(b []byte) []byte {
	return append(slices.Clone(b), 201, 202, 203, 204, 205, 206, 207, 208)[: len(b) : len(b)+8]
}

// whole is b with its spare room.
func whole(b []byte) []byte { return b[:cap(b)] }

// fill overwrites b and its spare room.
func fill(b []byte) {
	for i := range whole(b) {
		whole(b)[i] = 99
	}
}

// handed fails where a call changed one of l, or where what it answered shares memory with one of l or with another answer.
func handed(t *testing.T, what string, l [][]byte, call func(l [][]byte) []byte) {
	t.Helper()
	var given [][]byte
	for _, b := range l {
		given = append(given, roomy(b))
	}
	wanted := slices.Clone(call(l))
	got := call(given)
	for i, b := range l {
		want(t, what+": what was handed in", whole(given[i]), whole(roomy(b)))
		fill(given[i])
	}
	want(t, what+": the answer", got, wanted)
	fill(got)
	want(t, what+": the answer again", call(l), wanted)
}

func TestNothingIsChangedOrKept(t *testing.T) {
	key, nonce := seed("key", 7), seed("nonce", 7)[:12]
	handed(t, "Block", [][]byte{key, counting(16)}, func(l [][]byte) []byte { return block(t, l[0], l[1]) })
	for _, n := range []int{1, 15, 16, 40} {
		handed(t, "Stream", [][]byte{key, nonce}, func(l [][]byte) []byte { return stream(t, l[0], l[1], n) })
		handed(t, "Crypt", [][]byte{key, nonce, counting(n)}, func(l [][]byte) []byte { return crypt(t, l[0], l[1], l[2]) })
	}
}

// Arguments may be one memory, and what a call answered may be handed in.
func TestOneListAsAllArguments(t *testing.T) {
	key := seed("key", 8)
	before := slices.Clone(key)
	want(t, "Block", block(t, key, key[:16]), otherBlock(t, before, before[:16]))
	want(t, "Crypt", crypt(t, key, key[4:16], key), otherCrypt(t, before, before[4:16], before))
	want(t, "the key", key, before)
}
