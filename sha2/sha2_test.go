package sha2_test

import (
	"bytes"
	"crypto/sha256"
	"crypto/sha512"
	"slices"
	"strings"
	"testing"

	"missive/flat"
	"missive/sha2"
)

// text is n bytes by a pattern that k turns.
func text(n, k int) []byte {
	out := make([]byte, n)
	for i := range out {
		out[i] = byte(i*k + i/251 + n)
	}
	return out
}

// other256, other512 are the sums by another program than this one.
func other256(b []byte) []byte { s := sha256.Sum256(b); return s[:] }

func other512(b []byte) []byte { s := sha512.Sum512(b); return s[:] }

// want fails where got has other bytes.
func want(t *testing.T, what string, got, wanted []byte) {
	t.Helper()
	if !bytes.Equal(got, wanted) {
		t.Errorf("%s:\n got %s\nwant %s", what, flat.Hex(got), flat.Hex(wanted))
	}
}

// roomy is b with spare room behind it that a careless append would write to.
func roomy(b ...byte) []byte {
	return append(slices.Clone(b), 201, 202, 203, 204, 205, 206, 207, 208)[:len(b)]
}

// whole is b with its spare room.
func whole(b []byte) []byte { return b[:cap(b)] }

// fill overwrites b and its spare room.
func fill(b []byte) {
	for i := range whole(b) {
		whole(b)[i] = 99
	}
}

// hashOf is a Hash256 that b was added to.
func hashOf(b ...byte) *sha2.Hash256 {
	var h sha2.Hash256
	h.Add(b...)
	return &h
}

// P2.1

func TestPublishedSums(t *testing.T) {
	const two256 = "abcdbcdecdefdefgefghfghighijhijkijkljklmklmnlmnomnopnopq"
	const two512 = "abcdefghbcdefghicdefghijdefghijkefghijklfghijklmghijklmnhijklmnoijklmnopjklmnopqklmnopqrlmnopqrsmnopqrstnopqrstu"
	million := strings.Repeat("a", 1000000)
	for _, c := range []struct{ text, sum string }{
		{"", "e3b0c44298fc1c149afbf4c8996fb92427ae41e4649b934ca495991b7852b855"},
		{"abc", "ba7816bf8f01cfea414140de5dae2223b00361a396177a9cb410ff61f20015ad"},
		{two256, "248d6a61d20638b8e5c026930c3e6039a33ce45964ff2167f6ecedd419db06c1"},
		{million, "cdc76e5c9914fb9281a1c7e284d73e67f1809a48a497200e046d39ccc7112cd0"},
	} {
		if got := flat.Hex(sha2.Sum256([]byte(c.text))); got != c.sum {
			t.Errorf("Sum256 of %d bytes: %s", len(c.text), got)
		}
		if got := flat.Hex(hashOf([]byte(c.text)...).Sum()); got != c.sum {
			t.Errorf("Sum of a Hash256 of %d bytes: %s", len(c.text), got)
		}
	}
	for _, c := range []struct{ text, sum string }{
		{"", "cf83e1357eefb8bdf1542850d66d8007d620e4050b5715dc83f4a921d36ce9ce47d0d13c5d85f2b0ff8318d2877eec2f63b931bd47417a81a538327af927da3e"},
		{"abc", "ddaf35a193617abacc417349ae20413112e6fa4e89a97ea20a9eeee64b55d39a2192992a274fc1a836ba3c23a3feebbd454d4423643ce80e2a9ac94fa54ca49f"},
		{two512, "8e959b75dae313da8cf4f72814fc143f8f7779c6eb9f7fa17299aeadb6889018501d289e4900f7e4331b99dec4b5433ac7d329eeb6dd26545e96e55b874be909"},
		{million, "e718483d0ce769644e2e42c7bc15b4638e1f98b13b2044285632a803afa973ebde0ff244877ea60a4cb0432ce577c31beb009c5c2c49aa2e4eadb217ad8cc09b"},
	} {
		if got := flat.Hex(sha2.Sum512([]byte(c.text))); got != c.sum {
			t.Errorf("Sum512 of %d bytes: %s", len(c.text), got)
		}
	}
}

// All lengths around the ends of the first blocks: there the ending needs a block more, or none.
func TestSumsOfAllLengths(t *testing.T) {
	for n := range 600 {
		for _, b := range [][]byte{text(n, 7), make([]byte, n), bytes.Repeat([]byte{255}, n)} {
			want(t, "Sum256", sha2.Sum256(b), other256(b))
			want(t, "Sum512", sha2.Sum512(b), other512(b))
			want(t, "Sum", hashOf(b...).Sum(), other256(b))
		}
	}
}

func TestSumsOfSeveral(t *testing.T) {
	none256, none512 := other256(nil), other512(nil)
	want(t, "Sum256 of nothing", sha2.Sum256(), none256)
	want(t, "Sum512 of nothing", sha2.Sum512(), none512)
	want(t, "Sum256 of empty ones", sha2.Sum256(nil, []byte{}, nil), none256)
	want(t, "Sum512 of empty ones", sha2.Sum512(nil, []byte{}, nil), none512)
	all := text(300, 3)
	for n := range 301 {
		l := [][]byte{nil, all[:n/3], {}, all[n/3 : n], nil, all[n:], nil}
		want(t, "Sum256 of several", sha2.Sum256(l...), other256(all))
		want(t, "Sum512 of several", sha2.Sum512(l...), other512(all))
	}
	var bytewise [][]byte
	for i := range all {
		bytewise = append(bytewise, all[i:i+1])
	}
	want(t, "Sum256 byte by byte", sha2.Sum256(bytewise...), other256(all))
	want(t, "Sum512 byte by byte", sha2.Sum512(bytewise...), other512(all))
	want(t, "Sum256 in order", sha2.Sum256([]byte("ab"), []byte("c")), other256([]byte("abc")))
	want(t, "Sum256 turned about", sha2.Sum256([]byte("c"), []byte("ab")), other256([]byte("cab")))
	want(t, "Sum512 turned about", sha2.Sum512([]byte("c"), []byte("ab")), other512([]byte("cab")))
}

// P2.2

func TestZeroHash(t *testing.T) {
	var h sha2.Hash256
	want(t, "Sum of a zero one", h.Sum(), other256(nil))
	want(t, "Sum of a new one", new(sha2.Hash256).Sum(), other256(nil))
	want(t, "Sum of a copy of a zero one", h.Copy().Sum(), other256(nil))
	h.Add()
	h.Add(nil...)
	h.Add([]byte{}...)
	want(t, "Sum behind no bytes", h.Sum(), other256(nil))
	h.Add(1)
	want(t, "Sum behind one byte", h.Sum(), other256([]byte{1}))
}

func TestHashGoesOn(t *testing.T) {
	var h sha2.Hash256
	all := text(400, 11)
	for n, x := range all {
		want(t, "Sum", h.Sum(), other256(all[:n]))
		want(t, "Sum again", h.Sum(), other256(all[:n]))
		h.Add(x)
	}
	h.Add(1, 2, 3)
	want(t, "Sum behind more", h.Sum(), other256(append(all, 1, 2, 3)))
}

func TestCopyIsOneOfItsOwn(t *testing.T) {
	for n := range 200 {
		b := text(n, 9)
		h := hashOf(b...)
		c := h.Copy()
		want(t, "the copy", c.Sum(), other256(b))
		c.Add(1, 2)
		want(t, "the first behind an Add to its copy", h.Sum(), other256(b))
		h.Add(text(100, 3)...)
		want(t, "the copy behind an Add to the first", c.Sum(), other256(append(slices.Clone(b), 1, 2)))
		want(t, "the first behind its own Add", h.Sum(), other256(append(slices.Clone(b), text(100, 3)...)))
		d := c.Copy()
		d.Add(3)
		want(t, "a copy of a copy", d.Sum(), other256(append(slices.Clone(b), 1, 2, 3)))
		want(t, "the copy behind that", c.Sum(), other256(append(slices.Clone(b), 1, 2)))
	}
}

func TestHashIsAValue(t *testing.T) {
	h := *hashOf(1, 2, 3)
	c := h
	c.Add(4)
	want(t, "the first", h.Sum(), other256([]byte{1, 2, 3}))
	want(t, "the second", c.Sum(), other256([]byte{1, 2, 3, 4}))
}

func TestNilHash(t *testing.T) {
	var h *sha2.Hash256
	h.Add()
	h.Add(1, 2, 3)
	h.Add(text(200, 1)...)
	if got := h.Sum(); len(got) != 0 {
		t.Errorf("Sum of nil: %v", got)
	}
	if h.Copy() != nil {
		t.Error("Copy of nil is not nil")
	}
}

// P2.3

func TestPiecesAreTheSame(t *testing.T) {
	all := text(700, 13)
	for step := 1; step <= len(all); step++ {
		var h sha2.Hash256
		var l [][]byte
		for b := range slices.Chunk(all, step) {
			h.Add(b...)
			l = append(l, b)
		}
		want(t, "Sum of pieces", h.Sum(), other256(all))
		want(t, "Sum256 of pieces", sha2.Sum256(l...), other256(all))
		want(t, "Sum512 of pieces", sha2.Sum512(l...), other512(all))
	}
	for cut := range 201 {
		h := hashOf(all[:cut]...)
		h.Sum()
		h.Add(all[cut:]...)
		want(t, "Sum of two pieces", h.Sum(), other256(all))
	}
}

func TestNothingIsChanged(t *testing.T) {
	a, b := roomy(text(130, 3)...), roomy(1, 2)
	row := [][]byte{a, b, {7}}[:2]
	sha2.Sum256(row...)
	sha2.Sum512(row...)
	var h sha2.Hash256
	h.Add(a...)
	h.Add(b...)
	h.Sum()
	want(t, "the first list", whole(a), whole(roomy(text(130, 3)...)))
	want(t, "the second list", whole(b), whole(roomy(1, 2)))
	want(t, "what stands behind the row", row[:3][2], []byte{7})
	want(t, "the row's first", row[0], text(130, 3))
	want(t, "the row's second", row[1], []byte{1, 2})
}

func TestNothingIsKept(t *testing.T) {
	for _, n := range []int{1, 63, 64, 65, 200} {
		b := roomy(text(n, 3)...)
		h := hashOf(b...)
		c := h.Copy()
		fill(b)
		want(t, "Sum", h.Sum(), other256(text(n, 3)))
		want(t, "Sum of the copy", c.Sum(), other256(text(n, 3)))
	}
}

func TestAnswersAreNewMemory(t *testing.T) {
	b := text(70, 3)
	h := hashOf(b...)
	c := h.Copy()
	for _, f := range []func() []byte{
		h.Sum,
		c.Sum,
		func() []byte { return sha2.Sum256(b) },
		func() []byte { return sha2.Sum512(b) },
	} {
		one, two := f(), f()
		kept := slices.Clone(two)
		fill(one)
		want(t, "the same sum behind a change of the first", two, kept)
		want(t, "a sum made behind it", f(), kept)
	}
	want(t, "what was summed", b, text(70, 3))
}
