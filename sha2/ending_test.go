package sha2

import (
	"bytes"
	"testing"

	"missive/flat"
)

// So many bytes that the count of bits needs more than 32: a sum of as many would take seconds.
func TestEndingOfManyBytes(t *testing.T) {
	for _, size := range []uint64{0, 1, 55, 56, 111, 112, 1 << 29, 1<<29 + 56, 1<<31 - 1} {
		for length, field := range map[int]int{block256: 8, block512: 16} {
			got := ending(size, length)
			noughts := len(got) - 1 - field
			if noughts < 0 || noughts >= length || (size+uint64(len(got)))%uint64(length) != 0 {
				t.Fatalf("%d bytes in blocks of %d: an ending of %d bytes", size, length, len(got))
			}
			wanted := flat.Cat([]byte{128}, make([]byte, noughts+field-8), flat.Put64(8*size))
			if !bytes.Equal(got, wanted) {
				t.Errorf("%d bytes in blocks of %d: %v", size, length, got)
			}
		}
	}
}
