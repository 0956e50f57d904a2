package store_test

import (
	"bytes"
	"math"
	"slices"
	"testing"

	"missive/api"
	"missive/block"
	"missive/store"
)

// dev is a device of so many blocks.
func dev(t *testing.T, blocks int) *block.Dev {
	t.Helper()
	d, e := block.New(blocks)
	if e != api.OK {
		t.Fatalf("New(%d): %d", blocks, e)
	}
	return d
}

// opened is the store on d.
func opened(t *testing.T, d *block.Dev) *store.Store {
	t.Helper()
	s, e := store.Open(d)
	if e != api.OK || s == nil {
		t.Fatalf("Open: %v, %d", s, e)
	}
	return s
}

// text is n bytes, which hang on k; the first ones are no noughts.
func text(n, k int) []byte {
	b := make([]byte, n)
	for i := range b {
		b[i] = byte(i*7+k*31) | 1
	}
	return b
}

// is fails where got is another number.
func is(t *testing.T, what string, got, wanted api.Errno) {
	t.Helper()
	if got != wanted {
		t.Fatalf("%s tells %d, want %d", what, got, wanted)
	}
}

// save fails where Save of all of l is not OK.
func save(t *testing.T, s *store.Store, l ...[]byte) {
	t.Helper()
	for _, b := range l {
		is(t, "Save", s.Save(b), api.OK)
	}
}

// refused fails where Open does not tell this error.
func refused(t *testing.T, what string, d *block.Dev, wanted api.Errno) {
	t.Helper()
	s, e := store.Open(d)
	if s != nil || e != wanted {
		t.Fatalf("%s: Open: %v, %d, want %d", what, s, e, wanted)
	}
}

// holds fails where s has other bytes, or another count.
func holds(t *testing.T, what string, s *store.Store, count int, wanted []byte) {
	t.Helper()
	b, e := s.Load()
	if e != api.OK || !bytes.Equal(b, wanted) || s.Count() != count {
		t.Fatalf("%s:\n got %v, %d, count %d\nwant %v, count %d", what, b, e, s.Count(), wanted, count)
	}
}

// fresh fails where something was saved in s.
func fresh(t *testing.T, what string, s *store.Store) {
	t.Helper()
	b, e := s.Load()
	if e != api.ErrNone || b != nil || s.Count() != 0 {
		t.Fatalf("%s: %v, %d, count %d", what, b, e, s.Count())
	}
}

// blocks is all that may be read on d.
func blocks(t *testing.T, d *block.Dev) [][]byte {
	t.Helper()
	var out [][]byte
	for k := range d.Len() {
		b, e := d.Read(k)
		is(t, "Read", e, api.OK)
		out = append(out, b)
	}
	return out
}

// laid is a device of these blocks, all of them for good.
func laid(t *testing.T, l [][]byte) *block.Dev {
	t.Helper()
	d := dev(t, len(l))
	for k, b := range l {
		is(t, "Write", d.Write(k, b), api.OK)
	}
	is(t, "Flush", d.Flush(), api.OK)
	return d
}

// sizes is how many bytes may be saved on 64 blocks: the edges of all that could be one.
func sizes() []int {
	out := []int{0, 1, 2, 1279, 1280}
	for n := 8; n < 1280; n += 8 {
		out = append(out, n-1, n, n+1)
	}
	return out
}

// P16.1

func TestRoom(t *testing.T) {
	for _, n := range []int{math.MinInt, -64, -1, 0, 1, 63} {
		if store.Room(n) != 0 {
			t.Errorf("Room(%d): %d", n, store.Room(n))
		}
	}
	for n, wanted := range map[int]int{64: 1280, 65: 1300, 100: 2000, 2048: 40960, api.MaxBlocks: 1310720} {
		if store.Room(n) != wanted {
			t.Errorf("Room(%d): %d, want %d", n, store.Room(n), wanted)
		}
	}
}

func TestOpenOfNoughts(t *testing.T) {
	for _, n := range []int{64, 65, 100, 2048, api.MaxBlocks} {
		s := opened(t, dev(t, n))
		fresh(t, "noughts", s)
		if s.Dead() {
			t.Errorf("%d blocks: dead", n)
		}
	}
}

func TestOpenOfTooFewBlocks(t *testing.T) {
	refused(t, "nil", nil, api.ErrArg)
	refused(t, "zero", &block.Dev{}, api.ErrArg)
	for _, n := range []int{1, 2, 32, 62, 63} {
		d := dev(t, n)
		refused(t, "few blocks", d, api.ErrArg)
		d.Write(0, text(64, 1))
		refused(t, "few blocks of something else", d, api.ErrArg)
		d.Cut(0)
		refused(t, "few blocks without power", d, api.ErrArg)
	}
}

func TestOpenOfOtherBlocks(t *testing.T) {
	d := dev(t, 64)
	for k := range d.Len() {
		d.Write(k, text(64, k))
	}
	refused(t, "all are something else's", d, api.ErrBad)
	is(t, "Flush", d.Flush(), api.OK)
	refused(t, "for good", d, api.ErrBad)
	d.Cut(0)
	refused(t, "the power off", d, api.ErrBad)
	d.Flush()
	refused(t, "an op refused", d, api.ErrBad)
}

func TestOpenOfOneOtherBlock(t *testing.T) {
	kept := dev(t, 70)
	save(t, opened(t, kept), text(300, 1), text(200, 2))
	for k := range 70 {
		for _, b := range [][]byte{text(64, k), bytes.Repeat([]byte{255}, 64), append(make([]byte, 63), 1)} {
			for _, d := range []*block.Dev{dev(t, 70), kept.Copy()} {
				d.Write(k, b)
				n := d.Ops()
				refused(t, "one is something else's", d, api.ErrBad)
				if d.Ops() != n {
					t.Fatalf("a refused Open did %d ops", d.Ops()-n)
				}
			}
		}
	}
}

func TestOpenOfHeadsThatAreNone(t *testing.T) {
	d := dev(t, 64)
	save(t, opened(t, d), text(1280, 1))
	l := blocks(t, d)
	with := func(at int, b ...byte) *block.Dev {
		head := bytes.Clone(l[0])
		copy(head[at:], b)
		return laid(t, append([][]byte{head}, l[1:]...))
	}
	holds(t, "as it was", opened(t, with(0)), 1, text(1280, 1))
	refused(t, "no count", with(15, 0), api.ErrBad)
	refused(t, "a count below 0", with(8, 128), api.ErrBad)
	refused(t, "a size below 0", with(16, 128), api.ErrBad)
	refused(t, "a size of more than there is room for", with(22, 5, 1), api.ErrBad)
	for at := range 64 {
		if at < 8 || at >= 24 {
			refused(t, "a byte of it", with(at, l[0][at]^4), api.ErrBad)
		}
	}
}

func TestOpenWithoutPower(t *testing.T) {
	d := dev(t, 64)
	d.Cut(0)
	refused(t, "cut", d, api.ErrOff)
	refused(t, "cut, again", d, api.ErrOff)
	d = dev(t, 64)
	s := opened(t, d)
	save(t, s, text(9, 1))
	d.Cut(0)
	is(t, "Save", s.Save(text(9, 2)), api.ErrOff)
	refused(t, "off", d, api.ErrOff)
	holds(t, "what is left", opened(t, d.Crash()), 1, text(9, 1))
}

func TestSaveIsLoaded(t *testing.T) {
	d := dev(t, 64)
	s := opened(t, d)
	for i, n := range sizes() {
		b := text(n, i)
		save(t, s, b)
		holds(t, "Save", s, i+1, b)
		holds(t, "Save, Load again", s, i+1, b)
		holds(t, "Save, Open", opened(t, d), i+1, b)
		if i%5 == 0 {
			d = d.Crash(i, i+1)
			s = opened(t, d)
			holds(t, "Save, Crash, Open", s, i+1, b)
		}
	}
	if s.Dead() {
		t.Error("dead")
	}
}

func TestSaveIsForGood(t *testing.T) {
	for _, n := range []int{0, 1, 64, 500, 1280} {
		d := dev(t, 64)
		s := opened(t, d)
		for i := range 4 {
			b := text(n, i)
			save(t, s, b)
			for p := range 5 {
				holds(t, "Crash", opened(t, d.Crash(p, 2*p, -p)), i+1, b)
			}
			holds(t, "Copy", opened(t, d.Copy()), i+1, b)
		}
	}
}

func TestSaveOfAsMuchAsThereIsRoomFor(t *testing.T) {
	for _, n := range []int{64, 65, 66, 67, 79, 100, 2048, api.MaxBlocks} {
		d := dev(t, n)
		s := opened(t, d)
		for i := range 3 {
			b := text(store.Room(n), i)
			save(t, s, b)
			holds(t, "Room", opened(t, d.Crash()), i+1, b)
		}
	}
}

func TestSaveOfTooMuch(t *testing.T) {
	for _, n := range []int{64, 65, 100} {
		d := dev(t, n)
		s := opened(t, d)
		most := store.Room(n)
		for _, more := range []int{1, 2, 64, 5000} {
			ops := d.Ops()
			is(t, "Save", s.Save(text(most+more, 1)), api.ErrBig)
			fresh(t, "Save of too much", s)
			if d.Ops() != ops || s.Dead() {
				t.Fatalf("%d ops, dead %v", d.Ops()-ops, s.Dead())
			}
		}
		save(t, s, text(most, 1))
		is(t, "Save", s.Save(text(most+1, 2)), api.ErrBig)
		holds(t, "Save of too much", s, 1, text(most, 1))
		holds(t, "Save of too much", opened(t, d), 1, text(most, 1))
	}
}

func TestSaveOfNothing(t *testing.T) {
	for _, none := range [][]byte{nil, {}} {
		d := dev(t, 64)
		s := opened(t, d)
		save(t, s, none)
		holds(t, "nothing", s, 1, nil)
		save(t, s, text(70, 1), none)
		holds(t, "nothing again", s, 3, nil)
		holds(t, "nothing, behind a crash", opened(t, d.Crash()), 3, nil)
	}
}

func TestSaveOfNoughtsAndOfEachByte(t *testing.T) {
	s := opened(t, dev(t, 64))
	save(t, s, make([]byte, 1000))
	holds(t, "noughts", s, 1, make([]byte, 1000))
	for x := range 256 {
		b := bytes.Repeat([]byte{byte(x)}, 65)
		save(t, s, b)
		holds(t, "one byte, again and again", s, x+2, b)
	}
}

func TestOpenLeavesNothingPending(t *testing.T) {
	kept := dev(t, 64)
	save(t, opened(t, kept), text(500, 1), text(600, 2))
	d := dev(t, 64)
	for k, b := range blocks(t, kept) {
		d.Write(k, b)
	}
	fresh(t, "a crash ahead of Open", opened(t, d.Crash()))
	holds(t, "Open", opened(t, d), 2, text(600, 2))
	holds(t, "a crash behind Open", opened(t, d.Crash()), 2, text(600, 2))
}

func TestStoresOnOneDevice(t *testing.T) {
	d := dev(t, 64)
	a, b := opened(t, d), opened(t, d)
	save(t, a, text(100, 1))
	holds(t, "the other one's", b, 1, text(100, 1))
	save(t, b, text(200, 2), text(300, 3))
	holds(t, "the other one's two", a, 3, text(300, 3))
	save(t, a, text(150, 4))
	d.Cut(4)
	is(t, "Save", b.Save(text(90, 5)), api.ErrOff)
	holds(t, "behind one that was cut off", b, 4, text(150, 4))
	holds(t, "behind the other one's that was cut off", a, 4, text(150, 4))
}

func TestStoresHaveNothingInCommon(t *testing.T) {
	d := dev(t, 64)
	a := opened(t, d)
	save(t, a, text(100, 1))
	b := opened(t, d.Copy())
	c := opened(t, d.Crash())
	save(t, b, text(90, 2))
	d.Cut(0)
	is(t, "Save", a.Save(nil), api.ErrOff)
	save(t, c, text(80, 3), text(70, 4))
	holds(t, "the first", a, 1, text(100, 1))
	holds(t, "on a copy", b, 2, text(90, 2))
	holds(t, "behind a crash", c, 3, text(70, 4))
	if !a.Dead() || b.Dead() || c.Dead() {
		t.Errorf("dead: %v, %v, %v", a.Dead(), b.Dead(), c.Dead())
	}
}

// P16.3

func TestStoreWithoutADevice(t *testing.T) {
	for _, s := range []*store.Store{nil, {}} {
		fresh(t, "none", s)
		for _, b := range [][]byte{nil, {}, {1}, text(1280, 1), text(5000, 1)} {
			is(t, "Save", s.Save(b), api.ErrOff)
		}
		fresh(t, "none", s)
		if !s.Dead() {
			t.Error("not dead")
		}
	}
}

// P16.4

func TestSaveChangesAndKeepsNothing(t *testing.T) {
	for _, n := range []int{0, 1, 63, 64, 65, 700, 1280} {
		room := text(n+80, 1)
		was := bytes.Clone(room)
		d := dev(t, 64)
		s := opened(t, d)
		save(t, s, room[:n])
		if !bytes.Equal(room, was) {
			t.Fatalf("%d bytes: changed", n)
		}
		for i := range room {
			room[i] = 0
		}
		holds(t, "what was handed in is changed", s, 1, was[:n])
		holds(t, "what was handed in is changed", opened(t, d.Crash()), 1, was[:n])
	}
}

func TestWhatIsLoadedIsNewMemory(t *testing.T) {
	for _, n := range []int{1, 64, 700, 1280} {
		s := opened(t, dev(t, 64))
		save(t, s, text(n, 1))
		a, _ := s.Load()
		b, _ := s.Load()
		for i := range a[:cap(a)] {
			a[:cap(a)][i] = 0
		}
		if !slices.Equal(b, text(n, 1)) {
			t.Fatalf("%d bytes: two answers are one memory", n)
		}
		holds(t, "what was answered is changed", s, 1, text(n, 1))
	}
}

func TestAskingChangesNothing(t *testing.T) {
	d := dev(t, 64)
	s := opened(t, d)
	save(t, s, text(100, 1))
	n := d.Ops()
	was := blocks(t, d)
	for range 3 {
		s.Load()
		s.Count()
		s.Dead()
	}
	if d.Ops() != n || !slices.EqualFunc(was, blocks(t, d), bytes.Equal) {
		t.Error("the device is another")
	}
}
