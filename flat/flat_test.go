package flat_test

import (
	"math"
	"reflect"
	"strings"
	"testing"

	"missive/flat"
)

// same compares bytes; nil and no bytes are one.
func same(a, b []byte) bool { return string(a) == string(b) }

// want fails where got has other bytes.
func want(t *testing.T, what string, got, wanted []byte) {
	t.Helper()
	if !same(got, wanted) {
		t.Errorf("%s: got %v, want %v", what, got, wanted)
	}
}

// wantRow fails where got has other lists of bytes.
func wantRow(t *testing.T, what string, got, wanted [][]byte) {
	t.Helper()
	if len(got) != len(wanted) {
		t.Errorf("%s: got %v, want %v", what, got, wanted)
		return
	}
	for i := range got {
		if !same(got[i], wanted[i]) {
			t.Errorf("%s: at %d: got %v, want %v", what, i, got[i], wanted[i])
		}
	}
}

// roomy is b with spare room behind it that a careless append would write to.
func roomy(b ...byte) []byte {
	whole := append(append([]byte{}, b...), 201, 202, 203, 204, 205, 206, 207, 208)
	return whole[:len(b)]
}

// whole is b with its spare room.
func whole(b []byte) []byte { return b[:cap(b)] }

// fill overwrites b and its spare room.
func fill(b []byte) {
	for i := range whole(b) {
		whole(b)[i] = 99
	}
}

// P1.1

func TestEqual(t *testing.T) {
	for _, c := range []struct {
		a, b []byte
		same bool
	}{
		{nil, nil, true},
		{nil, []byte{}, true},
		{[]byte{}, nil, true},
		{nil, []byte{0}, false},
		{[]byte{0}, nil, false},
		{[]byte{1}, []byte{1}, true},
		{[]byte{1, 2, 3}, []byte{1, 2, 3}, true},
		{[]byte{1, 2, 3}, []byte{0, 2, 3}, false},
		{[]byte{1, 2, 3}, []byte{1, 0, 3}, false},
		{[]byte{1, 2, 3}, []byte{1, 2, 131}, false},
		{[]byte{1, 2, 3}, []byte{1, 2}, false},
		{[]byte{1, 2}, []byte{1, 2, 0}, false},
		{[]byte{0, 0}, []byte{0}, false},
		{roomy(1, 2), []byte{1, 2}, true},
	} {
		if got := flat.Equal(c.a, c.b); got != c.same {
			t.Errorf("Equal(%v, %v) = %v", c.a, c.b, got)
		}
	}
}

func TestXor(t *testing.T) {
	for _, c := range []struct{ a, b, x []byte }{
		{nil, nil, nil},
		{nil, []byte{1}, nil},
		{[]byte{1}, nil, nil},
		{[]byte{0x0f, 0xff}, []byte{0x55, 0xff}, []byte{0x5a, 0}},
		{[]byte{1, 2, 3, 4, 5}, []byte{1, 1, 1}, []byte{0, 3, 2}},
		{[]byte{1, 1, 1}, []byte{1, 2, 3, 4, 5}, []byte{0, 3, 2}},
		{[]byte{128}, []byte{127}, []byte{255}},
	} {
		want(t, "Xor", flat.Xor(c.a, c.b), c.x)
	}
}

func TestCat(t *testing.T) {
	want(t, "Cat of nothing", flat.Cat(), nil)
	want(t, "Cat of empty ones", flat.Cat(nil, []byte{}, nil), nil)
	want(t, "Cat of one", flat.Cat([]byte{7, 8}), []byte{7, 8})
	want(t, "Cat in order", flat.Cat([]byte{1, 2}, nil, []byte{5}, []byte{3, 3}), []byte{1, 2, 5, 3, 3})
	one := []byte{4, 5}
	want(t, "Cat of one list twice", flat.Cat(one, one), []byte{4, 5, 4, 5})
}

func TestPut(t *testing.T) {
	want(t, "Put32(258)", flat.Put32(258), []byte{0, 0, 1, 2})
	want(t, "Put32(0)", flat.Put32(0), make([]byte, 4))
	want(t, "Put32", flat.Put32(0x89abcdef), []byte{0x89, 0xab, 0xcd, 0xef})
	want(t, "Put32 of the greatest", flat.Put32(math.MaxUint32), []byte{255, 255, 255, 255})
	want(t, "Put64(0)", flat.Put64(0), make([]byte, 8))
	want(t, "Put64", flat.Put64(0x89abcdef01234567), []byte{0x89, 0xab, 0xcd, 0xef, 1, 0x23, 0x45, 0x67})
	want(t, "Put64 of the greatest", flat.Put64(math.MaxUint64), []byte{255, 255, 255, 255, 255, 255, 255, 255})
	want(t, "Little64(0)", flat.Little64(0), make([]byte, 8))
	want(t, "Little64", flat.Little64(0x89abcdef01234567), []byte{0x67, 0x45, 0x23, 1, 0xef, 0xcd, 0xab, 0x89})
	want(t, "Little64 of the greatest", flat.Little64(math.MaxUint64), []byte{255, 255, 255, 255, 255, 255, 255, 255})
}

func TestGet(t *testing.T) {
	b := []byte{0x89, 0xab, 0xcd, 0xef, 1, 0x23, 0x45, 0x67, 0xfe}
	for n, w := range []uint32{0, 0x89000000, 0x89ab0000, 0x89abcd00, 0x89abcdef, 0x89abcdef} {
		// Spare room holds other bytes: those that are wanting are noughts all the same.
		if got := flat.Get32(b[:n]); got != w {
			t.Errorf("Get32 of %d bytes: got %x, want %x", n, got, w)
		}
	}
	for n, w := range []uint64{0, 0x8900000000000000, 0x89ab000000000000, 0x89abcd0000000000, 0x89abcdef00000000,
		0x89abcdef01000000, 0x89abcdef01230000, 0x89abcdef01234500, 0x89abcdef01234567, 0x89abcdef01234567} {
		if got := flat.Get64(b[:n]); got != w {
			t.Errorf("Get64 of %d bytes: got %x, want %x", n, got, w)
		}
	}
	if flat.Get32(nil) != 0 || flat.Get64(nil) != 0 {
		t.Error("a number of no bytes is not 0")
	}
}

func TestGetOfPut(t *testing.T) {
	for k := range 64 {
		for _, n := range []uint64{1 << k, 1<<k - 1, ^uint64(1 << k)} {
			if got := flat.Get64(flat.Put64(n)); got != n {
				t.Errorf("Get64 of Put64(%x): %x", n, got)
			}
			if got := flat.Get32(flat.Put32(uint32(n))); got != uint32(n) {
				t.Errorf("Get32 of Put32(%x): %x", uint32(n), got)
			}
			turned := flat.Little64(n)
			for i, x := range flat.Put64(n) {
				if turned[7-i] != x {
					t.Errorf("Little64(%x) is not Put64 turned about", n)
				}
			}
		}
	}
}

// P1.2

func TestHex(t *testing.T) {
	const small = "0123456789abcdef"
	if got := flat.Hex(nil); got != "" {
		t.Errorf("Hex of no bytes: %q", got)
	}
	if got := flat.Hex([]byte{0, 0x0a, 0xa0, 0xab, 0xff}); got != "000aa0abff" {
		t.Errorf("Hex: %q", got)
	}
	for x := range 256 {
		if got := flat.Hex([]byte{byte(x)}); got != small[x/16:x/16+1]+small[x%16:x%16+1] {
			t.Errorf("Hex of %d: %q", x, got)
		}
	}
}

func TestUnhexReads(t *testing.T) {
	for s, w := range map[string][]byte{"": nil, "00ab": {0, 171}, "ff": {255}, "0a90": {10, 144}} {
		got, ok := flat.Unhex(s)
		if !ok {
			t.Errorf("Unhex(%q) is refused", s)
		}
		want(t, "Unhex of "+s, got, w)
	}
	all := make([]byte, 256)
	for i := range all {
		all[i] = byte(i)
	}
	got, ok := flat.Unhex(flat.Hex(all))
	if !ok {
		t.Error("Unhex refuses what Hex wrote")
	}
	want(t, "Unhex of Hex", got, all)
}

// Of all texts of two bytes just 256 are what Hex writes.
func TestUnhexOfEveryPair(t *testing.T) {
	read := 0
	for x := range 1 << 16 {
		s := string([]byte{byte(x >> 8), byte(x)})
		got, ok := flat.Unhex(s)
		switch {
		case !ok && len(got) != 0:
			t.Fatalf("Unhex(%q) tells %v beside false", s, got)
		case ok && (len(got) != 1 || flat.Hex(got) != s):
			t.Fatalf("Unhex(%q) tells %v", s, got)
		case ok:
			read++
		}
	}
	if read != 256 {
		t.Errorf("%d texts of two bytes are read", read)
	}
}

func TestUnhexRefuses(t *testing.T) {
	for _, s := range []string{
		"0", "a", "000", "00abc", "AB", "aB", "Ab", "0g", "g0", "00 1", " 00", "00 ", "0x00", "-1", "+1",
		"00ag", "zz00", "00\n", "0\x00", "é", "0é0", "\u0660\u0660", strings.Repeat("0", 4097),
	} {
		if got, ok := flat.Unhex(s); ok || len(got) != 0 {
			t.Errorf("Unhex(%q): %v, %v", s, got, ok)
		}
	}
}

func TestEach(t *testing.T) {
	l := [][]byte{{1, 2}, nil, {3}}
	longer := func(b []byte) []byte { return append(b, byte(len(b))) }
	wantRow(t, "Each", flat.Each(l, longer), [][]byte{{1, 2, 2}, {0}, {3, 1}})
	wantRow(t, "Each of nil", flat.Each(nil, longer), nil)
	wantRow(t, "Each of no lists", flat.Each([][]byte{}, longer), nil)
	wantRow(t, "Each to none", flat.Each(l, func([]byte) []byte { return nil }), [][]byte{nil, nil, nil})
	wantRow(t, "Each with nil", flat.Each(l, nil), l)
	wantRow(t, "Each of nil with nil", flat.Each(nil, nil), nil)
}

func TestEachGoesInOrder(t *testing.T) {
	var seen [][]byte
	l := [][]byte{{3}, {1}, {2}, {1}}
	got := flat.Each(l, func(b []byte) []byte {
		seen = append(seen, append([]byte{}, b...))
		return []byte{byte(len(seen))}
	})
	wantRow(t, "what f was given", seen, l)
	wantRow(t, "what f told", got, [][]byte{{1}, {2}, {3}, {4}})
}

func TestEachHandsOverACopy(t *testing.T) {
	l := [][]byte{roomy(1, 2), roomy(), roomy(3)}
	before := [][]byte{whole(roomy(1, 2)), whole(roomy()), whole(roomy(3))}
	got := flat.Each(l, func(b []byte) []byte {
		if cap(b) != len(b) {
			t.Errorf("%d bytes have room for %d: the room of the argument is to be seen", len(b), cap(b))
		}
		for i := range b {
			b[i] += 10
		}
		return append(b, 9)
	})
	wantRow(t, "Each", got, [][]byte{{11, 12, 9}, {9}, {13, 9}})
	for i := range l {
		want(t, "the list that was handed in", whole(l[i]), before[i])
	}
}

func TestEachWithAChangeOfItsList(t *testing.T) {
	l := [][]byte{{1}, {2}, {3}}
	got := flat.Each(l, func(b []byte) []byte {
		l[1], l[2][0] = nil, 9
		return b
	})
	wantRow(t, "Each", got, [][]byte{{1}, {2}, {3}})
}

func TestEachOfAPanic(t *testing.T) {
	for what, thrown := range map[string]any{"a text": "no", "nil": nil, "a number": 7} {
		got := flat.Each([][]byte{{1}, {2}, {3}}, func(b []byte) []byte {
			if b[0] == 2 {
				panic(thrown)
			}
			return b
		})
		wantRow(t, "Each of an f that panics with "+what, got, [][]byte{{1}, nil, {3}})
	}
	got := flat.Each([][]byte{{1}, nil}, func(b []byte) []byte { return b[:len(b)-1] })
	wantRow(t, "Each of an f that runs out of bounds", got, [][]byte{nil, nil})
}

// mask has methods that Each takes.
type mask struct{ key []byte }

func (m mask) lay(b []byte) []byte { return flat.Xor(m.key, b) }

// tally keeps count through its pointer.
type tally struct{ bytes int }

func (c *tally) note(b []byte) []byte {
	c.bytes += len(b)
	return []byte{byte(c.bytes)}
}

// maker has one method, that of a mask.
type maker interface{ lay(b []byte) []byte }

func TestEachTakesMethods(t *testing.T) {
	l := [][]byte{{1, 2}, {4}}
	laid := [][]byte{{0xf1, 0xf2}, {0xf4}}
	m := mask{[]byte{0xf0, 0xf0}}
	wantRow(t, "a method value", flat.Each(l, m.lay), laid)
	wantRow(t, "a method value of an interface", flat.Each(l, maker(m).lay), laid)
	c := &tally{}
	wantRow(t, "a method value of a pointer", flat.Each(l, c.note), [][]byte{{2}, {3}})
	if c.bytes != 3 {
		t.Errorf("the pointer's method noted %d bytes", c.bytes)
	}
	bind := func(f func(mask, []byte) []byte) func([]byte) []byte {
		return func(b []byte) []byte { return f(m, b) }
	}
	wantRow(t, "a method expression", flat.Each(l, bind(mask.lay)), laid)
}

// P1.3

func TestXorTwice(t *testing.T) {
	a, b := []byte{1, 2, 3, 4, 5}, []byte{9, 255, 3, 128}
	want(t, "Xor of Xor(a, b) and b", flat.Xor(flat.Xor(a, b), b), a[:4])
	want(t, "Xor of Xor(b, a) and a", flat.Xor(flat.Xor(b, a), a), b)
	for x := range 256 {
		for y := range 256 {
			p, q := []byte{byte(x)}, []byte{byte(y)}
			if got := flat.Xor(flat.Xor(p, q), q); !same(got, p) {
				t.Fatalf("Xor of Xor(%d, %d) and %d: %v", x, y, y, got)
			}
		}
	}
}

// Every call that answers bytes, on the arguments a and b.
func answers(a, b []byte) map[string][]byte {
	text, _ := flat.Unhex(flat.Hex(a))
	return map[string][]byte{
		"Xor":          flat.Xor(a, b),
		"Xor of one":   flat.Xor(a, a),
		"Cat":          flat.Cat(a, b),
		"Cat of one":   flat.Cat(a),
		"Cat of a row": flat.Cat([][]byte{a, nil, b}...),
		"Put32":        flat.Put32(flat.Get32(a)),
		"Put64":        flat.Put64(flat.Get64(a)),
		"Little64":     flat.Little64(flat.Get64(b)),
		"Unhex":        text,
		"Each":         flat.Each([][]byte{a, b}, func(b []byte) []byte { return b })[0],
		"Each of nil":  flat.Each([][]byte{a, b}, nil)[1],
	}
}

func TestNothingIsChanged(t *testing.T) {
	a, b := roomy(1, 2, 3, 4, 5, 6, 7, 8, 9), roomy(4, 4, 4)
	answers(a, b)
	flat.Equal(a, b)
	want(t, "a", whole(a), whole(roomy(1, 2, 3, 4, 5, 6, 7, 8, 9)))
	want(t, "b", whole(b), whole(roomy(4, 4, 4)))
	row := [][]byte{a, b}[:1]
	flat.Cat(row...)
	flat.Each(row, nil)
	flat.Each(row, func(b []byte) []byte { return append(b, 1) })
	wantRow(t, "the row", row[:2], [][]byte{a, b})
}

func TestNothingIsKept(t *testing.T) {
	a, b := roomy(1, 2, 3, 4, 5, 6, 7, 8, 9), roomy(4, 4, 4)
	got := answers(a, b)
	fill(a)
	fill(b)
	fresh := answers([]byte{1, 2, 3, 4, 5, 6, 7, 8, 9}, []byte{4, 4, 4})
	if !reflect.DeepEqual(got, fresh) {
		t.Errorf("answers changed with their arguments: got %v, want %v", got, fresh)
	}
}

func TestAnswersAreNewMemory(t *testing.T) {
	a, b := roomy(1, 2, 3, 4, 5, 6, 7, 8, 9), roomy(4, 4, 4)
	for _, x := range answers(a, b) {
		fill(x)
	}
	want(t, "a", whole(a), whole(roomy(1, 2, 3, 4, 5, 6, 7, 8, 9)))
	want(t, "b", whole(b), whole(roomy(4, 4, 4)))
	again := answers(a, b)
	if !reflect.DeepEqual(again, answers([]byte{1, 2, 3, 4, 5, 6, 7, 8, 9}, []byte{4, 4, 4})) {
		t.Errorf("answers share memory from call to call: %v", again)
	}
}

// One list that stands twice in a row, or that f tells twice, or keeps, is a list of its own at each place.
func TestEachSharesNothing(t *testing.T) {
	one := roomy(1, 2)
	keep := roomy(5, 6)
	var held [][]byte
	for what, got := range map[string][][]byte{
		"a copy":            flat.Each([][]byte{one, one}, nil),
		"what f was given":  flat.Each([][]byte{one, one}, func(b []byte) []byte { held = append(held, b); return b }),
		"one list of f's":   flat.Each([][]byte{one, one}, func([]byte) []byte { return keep }),
		"the argument's":    flat.Each([][]byte{one, one}, func([]byte) []byte { return one }),
		"a piece of a list": flat.Each([][]byte{one, one}, func([]byte) []byte { return keep[:1] }),
	} {
		before := string(got[1])
		fill(got[0])
		if string(got[1]) != before {
			t.Errorf("%s: the answer's lists share memory", what)
		}
		fill(got[1])
		want(t, what+": the argument", whole(one), whole(roomy(1, 2)))
		want(t, what+": the list that f kept", whole(keep), whole(roomy(5, 6)))
	}
	wantRow(t, "the copies that f kept", held, [][]byte{{1, 2}, {1, 2}})
}
