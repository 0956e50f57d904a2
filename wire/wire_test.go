package wire_test

import (
	"bytes"
	"encoding/binary"
	"math"
	"slices"
	"testing"

	"missive/wire"
)

// want fails where got has other bytes.
func want(t *testing.T, what string, got, wanted []byte) {
	t.Helper()
	if !bytes.Equal(got, wanted) {
		t.Fatalf("%s:\n got %v\nwant %v", what, got, wanted)
	}
}

// text is n bytes by a pattern that k turns.
func text(n, k int) []byte {
	out := make([]byte, n)
	for i := range out {
		out[i] = byte(i*k + i/251 + n)
	}
	return out
}

// roomy is b with spare room behind it that a careless append would write to.
func roomy(b []byte) []byte {
	return append(slices.Clone(b), 201, 202, 203, 204, 205, 206, 207, 208)[: len(b) : len(b)+8]
}

// whole is b with its spare room.
func whole(b []byte) []byte { return b[:cap(b)] }

// fill overwrites b and its spare room.
func fill(b []byte) {
	for i := range whole(b) {
		whole(b)[i] = 99
	}
}

// edges is numbers around all those where a num gets longer, and others.
func edges() []uint64 {
	out := []uint64{0, 300, 1e9, math.MaxInt64, math.MaxUint64 - 1, math.MaxUint64}
	for k := range 64 {
		out = append(out, 1<<k, 1<<k-1, 1<<k+1, ^uint64(1<<k))
	}
	return out
}

// sizes is how many bytes may be: around those where their num gets longer.
func sizes() []int {
	return []int{0, 1, 2, 126, 127, 128, 129, 255, 256, 300, 16383, 16384, 16385, 70000}
}

// otherBytes is what another program than this one makes of b.
func otherBytes(b []byte) []byte {
	return append(binary.AppendUvarint(nil, uint64(len(b))), b...)
}

// otherList is what another program than this one makes of l.
func otherList(l [][]byte) []byte {
	out := binary.AppendUvarint(nil, uint64(len(l)))
	for _, b := range l {
		out = append(out, otherBytes(b)...)
	}
	return out
}

// P14.1

func TestZeroWriterHasNothing(t *testing.T) {
	for range 2 {
		var w wire.Writer
		want(t, "Done", w.Done(), nil)
		want(t, "Done again", w.Done(), nil)
		w.Num(5)
		want(t, "Done behind a num", w.Done(), []byte{5})
	}
}

func TestNum(t *testing.T) {
	for _, c := range []struct {
		n uint64
		b []byte
	}{
		{0, []byte{0}},
		{1, []byte{1}},
		{127, []byte{127}},
		{128, []byte{128, 1}},
		{129, []byte{129, 1}},
		{300, []byte{0xac, 0x02}},
		{16383, []byte{255, 127}},
		{16384, []byte{128, 128, 1}},
		{1 << 32, []byte{128, 128, 128, 128, 16}},
		{1<<63 - 1, []byte{255, 255, 255, 255, 255, 255, 255, 255, 127}},
		{1 << 63, []byte{128, 128, 128, 128, 128, 128, 128, 128, 128, 1}},
		{1<<64 - 1, []byte{255, 255, 255, 255, 255, 255, 255, 255, 255, 1}},
	} {
		want(t, "Num", new(wire.Writer).Num(c.n).Done(), c.b)
	}
	for _, n := range edges() {
		want(t, "Num", new(wire.Writer).Num(n).Done(), binary.AppendUvarint(nil, n))
	}
}

func TestBytes(t *testing.T) {
	want(t, "Bytes of nil", new(wire.Writer).Bytes(nil).Done(), []byte{0})
	want(t, "Bytes", new(wire.Writer).Bytes([]byte("ab")).Done(), []byte{2, 'a', 'b'})
	for _, n := range sizes() {
		want(t, "Bytes", new(wire.Writer).Bytes(text(n, 3)).Done(), otherBytes(text(n, 3)))
	}
}

func TestList(t *testing.T) {
	want(t, "List of nil", new(wire.Writer).List(nil).Done(), []byte{0})
	want(t, "List of none", new(wire.Writer).List([][]byte{}).Done(), []byte{0})
	want(t, "List of an empty one", new(wire.Writer).List([][]byte{{}}).Done(), []byte{1, 0})
	want(t, "List", new(wire.Writer).List([][]byte{{1}, nil, {2, 3}}).Done(), []byte{3, 1, 1, 0, 2, 2, 3})
	var l [][]byte
	for _, n := range sizes() {
		l = append(l, text(n, 5))
		want(t, "List", new(wire.Writer).List(l).Done(), otherList(l))
	}
	for _, n := range []int{127, 128, 300, 16384} {
		l := make([][]byte, n)
		l[n-1] = []byte{7}
		want(t, "List of many", new(wire.Writer).List(l).Done(), otherList(l))
	}
}

func TestFixed(t *testing.T) {
	want(t, "Fixed of nil", new(wire.Writer).Fixed(nil).Done(), nil)
	for _, n := range sizes() {
		want(t, "Fixed", new(wire.Writer).Fixed(text(n, 7)).Done(), text(n, 7))
	}
}

func TestEachTellsTheWriter(t *testing.T) {
	w := &wire.Writer{}
	if w.Num(1) != w || w.Bytes([]byte{2}) != w || w.List([][]byte{{3}}) != w || w.Fixed([]byte{4}) != w || w.Fixed(nil) != w {
		t.Error("a call tells another Writer")
	}
	want(t, "Done", w.Done(), []byte{1, 1, 2, 1, 1, 3, 4})
}

func TestAllStandsInOrder(t *testing.T) {
	w := &wire.Writer{}
	var all []byte
	for i := range 400 {
		b, l := text(i%150, i), [][]byte{text(i%3, i), nil, text(i%5, 1)}
		switch i % 4 {
		case 0:
			w.Num(uint64(i) << (i % 50))
			all = binary.AppendUvarint(all, uint64(i)<<(i%50))
		case 1:
			w.Bytes(b)
			all = append(all, otherBytes(b)...)
		case 2:
			w.List(l)
			all = append(all, otherList(l)...)
		case 3:
			w.Fixed(b)
			all = append(all, b...)
		}
		want(t, "Done", w.Done(), all)
	}
}

func TestNumIsAMethodExpression(t *testing.T) {
	w := &wire.Writer{}
	num := (*wire.Writer).Num
	want(t, "Num", num(num(w, 300), 5).Done(), []byte{0xac, 0x02, 5})
	if num(nil, 300) != nil {
		t.Error("Num of a nil Writer")
	}
}

func TestNilWriter(t *testing.T) {
	var w *wire.Writer
	if w.Num(1) != nil || w.Bytes([]byte{1}) != nil || w.List([][]byte{{1}}) != nil || w.Fixed([]byte{1}) != nil {
		t.Error("a call of a nil Writer tells one")
	}
	want(t, "Done", w.Num(1).Bytes([]byte{1}).Done(), nil)
}

func TestWritersHaveNothingInCommon(t *testing.T) {
	a, b := &wire.Writer{}, &wire.Writer{}
	for i := range uint64(100) {
		a.Num(i)
		b.Num(i + 1).Num(i + 2)
	}
	for i, x := range a.Done() {
		if x != byte(i) || b.Done()[2*i] != byte(i+1) || b.Done()[2*i+1] != byte(i+2) {
			t.Fatalf("at %d", i)
		}
	}
}

// A Writer is a struct: copies of it, there and back, go on by themselves.
func TestCopiesOfAWriterGoOnByThemselves(t *testing.T) {
	for n := range 70 {
		w := &wire.Writer{}
		for range n {
			w.Num(7)
		}
		was := *w
		first := *w.Fixed([]byte{1, 1, 1})
		*w = was
		w.Fixed([]byte{2, 2})
		was.Fixed([]byte{3})
		start := bytes.Repeat([]byte{7}, n)
		want(t, "the first", first.Done(), slices.Concat(start, []byte{1, 1, 1}))
		want(t, "the second", w.Done(), slices.Concat(start, []byte{2, 2}))
		want(t, "the third", was.Done(), slices.Concat(start, []byte{3}))
	}
}

// P14.4, of a Writer

func TestWriterChangesAndKeepsNothing(t *testing.T) {
	for _, n := range []int{0, 1, 5, 100, 300} {
		plain := [][]byte{text(n, 3), text(n, 5), text(n+1, 7), text(n, 9)}
		var given [][]byte
		for _, b := range plain {
			given = append(given, roomy(b))
		}
		l := append(make([][]byte, 0, 3), given[1], given[2])
		w := new(wire.Writer).Bytes(given[0]).List(l).Fixed(given[3])
		for i, b := range plain {
			want(t, "what was handed in", whole(given[i]), whole(roomy(b)))
			fill(given[i])
		}
		if l[:3][2] != nil {
			t.Error("the spare room of a list was written to")
		}
		l[0], l[1] = nil, nil
		want(t, "Done", w.Done(), slices.Concat(otherBytes(plain[0]), otherList(plain[1:3]), plain[3]))
	}
}

func TestDoneIsNewMemory(t *testing.T) {
	for n := range 70 {
		w := &wire.Writer{}
		for i := range n {
			w.Num(uint64(i))
		}
		before := w.Done()
		fill(w.Done())
		w.Fixed([]byte{1, 2, 3})
		behind := w.Done()
		want(t, "Done before", before, behind[:n])
		fill(before)
		want(t, "Done behind", w.Done(), behind)
		want(t, "Done's end", behind[n:], []byte{1, 2, 3})
	}
}
