package block_test

import (
	"bytes"
	"math"
	"math/rand"
	"slices"
	"testing"

	"missive/api"
	"missive/block"
)

// entry is what was done with a device: a Write, or a Flush.
type entry struct {
	flush bool
	k     int
	b     []byte
}

// model is a device that keeps all that was ever done with it, and works the rest out from that.
type model struct {
	blocks int
	done   []entry
	ops    int
	left   int // -1: not cut
	off    bool
}

// op does one, or refuses it.
func (m *model) op(x entry) api.Errno {
	if !x.flush && (x.k < 0 || x.k >= m.blocks || len(x.b) != 64) {
		return api.ErrArg
	}
	m.ops++
	if m.off || m.left == 0 {
		m.off = true
		return api.ErrOff
	}
	if m.left > 0 {
		m.left--
	}
	m.done = append(m.done, x)
	return api.OK
}

// cut takes the place of the last one.
func (m *model) cut(n int) {
	if !m.off {
		m.left = max(n, 0)
	}
}

// twin is another one like it.
func (m *model) twin() *model {
	out := *m
	out.done = slices.Clone(m.done)
	return &out
}

// ends is what block k may be behind a crash, by p.
func (m *model) ends(k int) [][]byte {
	out := [][]byte{make([]byte, 64)}
	for _, x := range m.done {
		last := out[len(out)-1]
		if x.flush {
			out = [][]byte{last}
		} else if x.k == k {
			out = append(out, slices.Concat(x.b[:32], last[32:]), x.b)
		}
	}
	return out
}

// now is each block.
func (m *model) now() [][]byte {
	var out [][]byte
	for k := range m.blocks {
		l := m.ends(k)
		out = append(out, l[len(l)-1])
	}
	return out
}

// crash is each block behind one.
func (m *model) crash(picks []int) [][]byte {
	var out [][]byte
	at := 0
	for k := range m.blocks {
		l := m.ends(k)
		p := 0
		if len(l) > 1 && len(picks) > 0 {
			p = (picks[at%len(picks)]%len(l) + len(l)) % len(l)
			at++
		}
		out = append(out, l[p])
	}
	return out
}

// like fails where d is not what m says.
func like(t *testing.T, what string, d *block.Dev, m *model) {
	t.Helper()
	holds(t, what, d, m.now())
	if d.Ops() != m.ops || d.Off() != m.off {
		t.Fatalf("%s: Ops %d, Off %v, want %d, %v", what, d.Ops(), d.Off(), m.ops, m.off)
	}
}

// drawn is a number of all sizes, below 0 too.
func drawn(r *rand.Rand) int {
	switch r.Intn(8) {
	case 0:
		return math.MinInt + r.Intn(9)
	case 1:
		return math.MaxInt - r.Intn(9)
	case 2:
		return int(r.Uint64())
	}
	return r.Intn(60) - 30
}

// step does one thing, drawn, with both.
func step(t *testing.T, r *rand.Rand, d *block.Dev, m *model) {
	t.Helper()
	x := entry{flush: true}
	switch n := r.Intn(20); {
	case n == 0:
		c := r.Intn(20) - 3
		d.Cut(c)
		m.cut(c)
		return
	case n < 16:
		x = entry{k: r.Intn(m.blocks+2) - 1, b: make([]byte, 64)}
		r.Read(x.b)
		if r.Intn(10) == 0 {
			x.b = x.b[:r.Intn(64)]
		}
	}
	wanted := m.op(x)
	var got api.Errno
	if x.flush {
		got = d.Flush()
	} else {
		got = d.Write(x.k, bytes.Clone(x.b))
	}
	if got != wanted {
		t.Fatalf("an op (Flush %v) tells %d, want %d", x.flush, got, wanted)
	}
}

// P15.1 to P15.3, all at once.
func TestDrawnDevices(t *testing.T) {
	for seed := range int64(250) {
		r := rand.New(rand.NewSource(seed))
		blocks := 1 + r.Intn(6)
		d, m := dev(t, blocks), &model{blocks: blocks, left: -1}
		for range 40 {
			step(t, r, d, m)
			like(t, "a device", d, m)
			picks := make([]int, r.Intn(5))
			for i := range picks {
				picks[i] = drawn(r)
			}
			left := d.Crash(picks...)
			holds(t, "a crash", left, m.crash(picks))
			like(t, "a device behind its crash", d, m)
			if r.Intn(10) == 0 {
				other, also := d.Copy(), m.twin()
				for range 10 {
					step(t, r, other, also)
					like(t, "a copy", other, also)
					holds(t, "a crash of a copy", other.Crash(picks...), also.crash(picks))
				}
				like(t, "a device that was copied", d, m)
			}
			if r.Intn(15) == 0 {
				d, m = left, &model{blocks: blocks, left: -1, done: behind(m.crash(picks))}
				like(t, "behind a crash", d, m)
			}
		}
	}
}

// behind is what was done with a device of such blocks, if all of it is for good.
func behind(blocks [][]byte) []entry {
	var out []entry
	for k, b := range blocks {
		out = append(out, entry{k: k, b: b})
	}
	return append(out, entry{flush: true})
}
