package aes

import (
	"math/bits"

	"missive/flat"
)

// Words of a key, rounds of a block, and words of a key for all of them, by FIPS 197.
const (
	keyWords = 8
	rounds   = 14
	allWords = 4 * (rounds + 1)
)

// state is a block's four columns; the highest byte of each is that of row 0.
type state [4]uint32

// cipher is a key, made ready for many blocks.
type cipher struct {
	box   [256]byte
	words [allWords]uint32 // four a round, and four ahead of the first one
}

// newCipher is that of the 32 bytes of key, by FIPS 197's KeyExpansion.
func newCipher(key []byte) *cipher {
	c := &cipher{box: boxes()}
	for i := range keyWords {
		c.words[i] = flat.Get32(key[4*i:])
	}
	mark := byte(1)
	for i := keyWords; i < allWords; i++ {
		x := c.words[i-1]
		switch i % keyWords {
		case 0:
			x = c.substitute(bits.RotateLeft32(x, 8)) ^ uint32(mark)<<24
			mark = double(mark)
		case keyWords / 2:
			x = c.substitute(x)
		}
		c.words[i] = c.words[i-keyWords] ^ x
	}
	return c
}

// block is FIPS 197's Cipher of the 16 bytes of b.
func (c *cipher) block(b []byte) []byte {
	var s state
	for i := range s {
		s[i] = flat.Get32(b[4*i:])
	}
	s = c.addKey(s, 0)
	for round := 1; round < rounds; round++ {
		s = c.addKey(mixed(c.substituted(shifted(s))), round)
	}
	// The last round mixes no columns.
	s = c.addKey(c.substituted(shifted(s)), rounds)
	out := make([]byte, 0, blockSize)
	for _, x := range s {
		out = append(out, flat.Put32(x)...)
	}
	return out
}

// substitute is the box of each byte of x.
func (c *cipher) substitute(x uint32) uint32 {
	return uint32(c.box[x>>24])<<24 | uint32(c.box[x>>16&0xff])<<16 | uint32(c.box[x>>8&0xff])<<8 | uint32(c.box[x&0xff])
}

// substituted is FIPS 197's SubBytes.
func (c *cipher) substituted(s state) state {
	for i, x := range s {
		s[i] = c.substitute(x)
	}
	return s
}

// addKey is FIPS 197's AddRoundKey with that round's words.
func (c *cipher) addKey(s state, round int) state {
	for i := range s {
		s[i] ^= c.words[4*round+i]
	}
	return s
}

// shifted is FIPS 197's ShiftRows: each row comes from as many columns on as it has above it.
func shifted(s state) state {
	var out state
	for i := range out {
		out[i] = s[i]&0xff000000 | s[(i+1)%4]&0xff0000 | s[(i+2)%4]&0xff00 | s[(i+3)%4]&0xff
	}
	return out
}

// mixed is FIPS 197's MixColumns: each byte is twice itself, three times the one below, and the other two.
func mixed(s state) state {
	for i, x := range s {
		below := bits.RotateLeft32(x, 8)
		s[i] = doubled(x^below) ^ below ^ bits.RotateLeft32(x, 16) ^ bits.RotateLeft32(x, 24)
	}
	return s
}

// doubled is each byte of x times 2.
func doubled(x uint32) uint32 {
	const highs = 0x80808080
	pushed := x & highs
	return (x^pushed)<<1 ^ (pushed>>7)*reducer
}
