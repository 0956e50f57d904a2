package store_test

import (
	"bytes"
	"math/rand"
	"testing"

	"missive/api"
	"missive/block"
	"missive/store"
)

// P16.2

// state is what a store tells.
type state struct {
	count int
	b     []byte
}

// told is what s tells.
func told(t *testing.T, s *store.Store) state {
	t.Helper()
	b, e := s.Load()
	count := s.Count()
	if (e == api.ErrNone) != (count == 0) || e != api.OK && e != api.ErrNone {
		t.Fatalf("Load: %d, count %d", e, count)
	}
	return state{count, b}
}

// same tells whether both are one.
func (a state) same(b state) bool { return a.count == b.count && bytes.Equal(a.b, b.b) }

// then is the state behind a Save of b.
func (a state) then(b []byte) state { return state{a.count + 1, b} }

// among fails where s tells neither.
func among(t *testing.T, what string, s *store.Store, old, next state) state {
	t.Helper()
	got := told(t, s)
	if !got.same(old) && !got.same(next) {
		t.Fatalf("%s:\n got %v\nwant %v\n  or %v", what, got, old, next)
	}
	return got
}

// filled is a device on which this was saved, one behind the other.
func filled(t *testing.T, l ...[]byte) (*block.Dev, *store.Store, state) {
	t.Helper()
	d := dev(t, 64)
	s := opened(t, d)
	save(t, s, l...)
	return d, s, told(t, s)
}

// opsOf is how many ops a Save of b takes.
func opsOf(t *testing.T, b []byte) int {
	t.Helper()
	d, s, _ := filled(t)
	n := d.Ops()
	save(t, s, b)
	return d.Ops() - n
}

// histories is what was saved ahead of a Save that is cut off.
func histories() [][][]byte {
	return [][][]byte{
		nil,
		{text(1280, 1)},
		{text(0, 1)},
		{text(1280, 1), text(3, 2)},
		{text(700, 1), text(1280, 2), text(130, 3)},
		{text(700, 1), text(0, 2), text(1280, 3), text(1, 4)},
	}
}

// picks is some for a crash: each alone for all blocks, and drawn ones.
func picks(r *rand.Rand) [][]int {
	out := [][]int{nil, {0}, {1}, {2}, {0, 1, 2}, {2, 1, 0}, {-1, -2, 0, 1}}
	for range 6 {
		l := make([]int, 1+r.Intn(40))
		for i := range l {
			l[i] = r.Intn(7) - 3
		}
		out = append(out, l)
	}
	return out
}

// reopened is the store behind some Opens that were cut off, and crashes.
func reopened(t *testing.T, r *rand.Rand, d *block.Dev, times int) (*block.Dev, *store.Store) {
	t.Helper()
	for range times {
		d.Cut(r.Intn(3))
		if s, e := store.Open(d); (s == nil) != (e == api.ErrOff) || s != nil && e != api.OK {
			t.Fatalf("Open: %v, %d", s, e)
		}
		d = d.Crash(r.Intn(5), r.Intn(5), r.Intn(5))
	}
	return d, opened(t, d)
}

func TestACutAtEachOpOfASave(t *testing.T) {
	r := rand.New(rand.NewSource(16))
	for _, h := range histories() {
		for _, n := range []int{0, 1, 56, 57, 200, 1280} {
			b := text(n, 9)
			for cut := range opsOf(t, b) {
				d, s, old := filled(t, h...)
				d.Cut(cut)
				is(t, "Save", s.Save(b), api.ErrOff)
				for i, p := range picks(r) {
					c, x := reopened(t, r, d.Crash(p...), i%3)
					got := among(t, "a cut", x, old, old.then(b))
					save(t, x, text(77, 5))
					got = got.then(text(77, 5))
					among(t, "a cut, a Save", opened(t, c.Crash(p...)), got, got)
				}
			}
		}
	}
}

func TestACutBehindASave(t *testing.T) {
	for _, h := range histories() {
		b := text(300, 9)
		d, s, old := filled(t, h...)
		d.Cut(opsOf(t, b))
		save(t, s, b)
		if s.Dead() {
			t.Fatal("dead")
		}
		is(t, "the Save behind it", s.Save(b), api.ErrOff)
		for p := range 7 {
			among(t, "a cut behind a Save", opened(t, d.Crash(p)), old.then(b), old.then(b))
		}
	}
}

// What counts is one write, and its first half is all of it.
func TestTheLastOpIsWhatCounts(t *testing.T) {
	for _, h := range histories() {
		b := text(300, 9)
		n := opsOf(t, b)
		for p := range 3 {
			d, s, old := filled(t, h...)
			d.Cut(n - 2)
			is(t, "Save", s.Save(b), api.ErrOff)
			among(t, "all but two ops", opened(t, d.Crash(p)), old, old)

			d, s, old = filled(t, h...)
			d.Cut(n - 1)
			is(t, "Save", s.Save(b), api.ErrOff)
			wanted := old
			if p > 0 {
				wanted = old.then(b)
			}
			among(t, "all but one op", opened(t, d.Crash(p)), wanted, wanted)
		}
	}
}

func TestACutOfOpen(t *testing.T) {
	r := rand.New(rand.NewSource(17))
	for _, h := range histories() {
		d, _, old := filled(t, h...)
		for times := range 12 {
			var s *store.Store
			d, s = reopened(t, r, d.Crash(times), times)
			among(t, "a cut within Open", s, old, old)
		}
	}
}

func TestADeadStore(t *testing.T) {
	for _, h := range histories() {
		b := text(300, 9)
		for cut := range opsOf(t, b) {
			d, s, old := filled(t, h...)
			d.Cut(cut)
			if s.Dead() {
				t.Fatal("dead ahead of the call that is refused")
			}
			among(t, "cut, but not refused", s, old, old)
			is(t, "Save", s.Save(b), api.ErrOff)
			for range 3 {
				if !s.Dead() {
					t.Fatal("not dead")
				}
				among(t, "a dead one", s, old, old)
				is(t, "Save of a dead one", s.Save(nil), api.ErrOff)
				is(t, "Save of a dead one", s.Save(text(1280, 3)), api.ErrOff)
				is(t, "Save of too much", s.Save(text(1281, 3)), api.ErrBig)
				d.Cut(100)
			}
		}
	}
}

func TestPowerThatWentElsewhere(t *testing.T) {
	d, s, old := filled(t, text(100, 1), text(200, 2))
	d.Cut(0)
	is(t, "Flush", d.Flush(), api.ErrOff)
	if s.Dead() {
		t.Fatal("dead, and no call of its own was refused")
	}
	among(t, "off", s, old, old)
	is(t, "Save of too much", s.Save(text(1281, 3)), api.ErrBig)
	if s.Dead() {
		t.Fatal("dead, of too much")
	}
	is(t, "Save", s.Save(text(1, 3)), api.ErrOff)
	if !s.Dead() {
		t.Fatal("not dead")
	}
	among(t, "dead", s, old, old)
}

// Long lives: Saves, cuts, crashes, and crashes within Open, as they are drawn.
func TestDrawnLives(t *testing.T) {
	r := rand.New(rand.NewSource(18))
	for life := range 150 {
		d := dev(t, 64+r.Intn(9))
		s := opened(t, d)
		var now state
		for step := range 40 {
			if r.Intn(2) == 0 {
				d.Cut(r.Intn(40))
			}
			next := now
			for e := api.OK; e == api.OK && r.Intn(4) > 0; {
				now = next
				among(t, "a Save", s, now, now)
				b := text(r.Intn(store.Room(d.Len())+1), life+step)
				e = s.Save(b)
				next = now.then(b)
				if e == api.OK {
					now = next
				}
			}
			among(t, "ahead of a crash", s, now, now)
			d, s = reopened(t, r, d.Crash(r.Perm(30)...), r.Intn(3))
			now = among(t, "a crash", s, now, next)
		}
	}
}
