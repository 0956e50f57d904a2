package ring

import (
	"slices"
	"testing"
)

// tape gives out its triples, one a read, and then those of refused numbers, and counts the reads.
type tape struct {
	triples [][]byte
	reads   int
}

// read is the next triple.
func (p *tape) read(n int) []byte {
	if n != 3 {
		return nil
	}
	p.reads++
	if p.reads > len(p.triples) {
		return refused()
	}
	return p.triples[p.reads-1]
}

// refused is the triple of 4095 and 4095.
func refused() []byte { return []byte{255, 255, 255} }

// triple is the two numbers in three bytes.
func triple(x, y uint16) []byte { return []byte{byte(x), byte(x>>8 | y<<4), byte(y >> 4)} }

// mixed is as many refused triples, and then numbers from 1 on, one a triple.
func mixed(refusals, numbers int) [][]byte {
	out := slices.Repeat([][]byte{refused()}, refusals)
	for k := range numbers {
		out = append(out, triple(q, uint16(k+1)))
	}
	return out
}

// counted is the polynomial of the numbers from 1 to n, and noughts.
func counted(n int) Poly {
	var out Poly
	for k := range n {
		out[k] = uint16(k + 1)
	}
	return out
}

// P10.3: no seed is known of which too few numbers come; so the draws are made up.

func TestDrawsEnd(t *testing.T) {
	for _, n := range []int{0, 1, 2, 128, 254, 255} {
		p := &tape{triples: mixed(0, n)}
		if got := filled(p.read); got != counted(n) {
			t.Errorf("of %d numbers: %v", n, got)
		}
		if p.reads != mostDraws {
			t.Errorf("of %d numbers: %d draws", n, p.reads)
		}
	}
}

// FIPS 203's appendix B allows no bound below 280.
func TestNumbersThatComeLate(t *testing.T) {
	for _, refusals := range []int{0, 1, 24, 25, 280, 10000, mostDraws - 257, mostDraws - 256} {
		p := &tape{triples: mixed(refusals, 300)}
		if got := filled(p.read); got != counted(256) {
			t.Errorf("behind %d: %v", refusals, got)
		}
		// Nothing is drawn that is not needed.
		if p.reads != refusals+256 {
			t.Errorf("behind %d: %d draws", refusals, p.reads)
		}
	}
	late := &tape{triples: mixed(mostDraws-255, 300)}
	if got := filled(late.read); got != counted(255) || late.reads != mostDraws {
		t.Errorf("too late: %d draws, %v", late.reads, got)
	}
}

// The last place is filled by the first number of a triple: its second one is left.
func TestLastNumberOfAnOddCount(t *testing.T) {
	p := &tape{triples: [][]byte{triple(q, 1)}}
	for k := 2; k <= 256; k += 2 {
		p.triples = append(p.triples, triple(uint16(k), uint16(k+1)))
	}
	if got := filled(p.read); got != counted(256) || p.reads != 129 {
		t.Errorf("%d draws, %v", p.reads, got)
	}
}
