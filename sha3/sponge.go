package sha3

// sponge is a state that takes bytes in, block by block, and then gives bytes out.
type sponge struct {
	lanes [25]uint64
	rate  int // bytes of a block
	at    int // how many of this block's were taken in, or given out
}

// closed is a sponge of that rate that took in all of l and its ending, and gives out next.
func closed(rate int, end byte, l [][]byte) sponge {
	p := sponge{rate: rate}
	for _, b := range l {
		p.take(b)
	}
	// FIPS 202's ending may be one byte: then both laid over it.
	p.lay(p.at, end)
	p.lay(rate-1, 0x80)
	p.at = rate
	return p
}

// take takes in b.
func (p *sponge) take(b []byte) {
	for _, x := range b {
		p.lay(p.at, x)
		p.at++
		if p.at == p.rate {
			p.turn()
		}
	}
}

// give gives out the next n bytes.
func (p *sponge) give(n int) []byte {
	out := make([]byte, n)
	for i := range out {
		if p.at == p.rate {
			p.turn()
		}
		out[i] = byte(p.lanes[p.at/8] >> (p.at % 8 * 8))
		p.at++
	}
	return out
}

// lay lays x over the byte at that place.
func (p *sponge) lay(at int, x byte) {
	p.lanes[at/8] ^= uint64(x) << (at % 8 * 8)
}

// turn goes on to the next block.
func (p *sponge) turn() {
	p.lanes = Permute(p.lanes)
	p.at = 0
}
