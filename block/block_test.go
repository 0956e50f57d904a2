package block_test

import (
	"bytes"
	"math"
	"slices"
	"testing"

	"missive/api"
	"missive/block"
)

// dev is a device of so many blocks.
func dev(t *testing.T, blocks int) *block.Dev {
	t.Helper()
	d, e := block.New(blocks)
	if e != api.OK || d == nil {
		t.Fatalf("New(%d): %v, %d", blocks, d, e)
	}
	return d
}

// fill is 64 bytes, no two of them alike, nor alike to those of another x.
func fill(x byte) []byte {
	b := make([]byte, 64)
	for i := range b {
		b[i] = x + byte(i)*17
	}
	return b
}

// torn is the first half of a, and the other one of b.
func torn(a, b []byte) []byte { return slices.Concat(a[:32], b[32:]) }

// none is noughts.
func none() []byte { return make([]byte, 64) }

// write fails where Write of all of l to block k is not OK.
func write(t *testing.T, d *block.Dev, k int, l ...[]byte) {
	t.Helper()
	for _, b := range l {
		is(t, "Write", d.Write(k, b), api.OK)
	}
}

// is fails where got is another number.
func is(t *testing.T, what string, got, wanted api.Errno) {
	t.Helper()
	if got != wanted {
		t.Fatalf("%s tells %d, want %d", what, got, wanted)
	}
}

// reads fails where block k has other bytes.
func reads(t *testing.T, what string, d *block.Dev, k int, wanted []byte) {
	t.Helper()
	b, e := d.Read(k)
	if e != api.OK || !bytes.Equal(b, wanted) {
		t.Fatalf("%s: block %d:\n got %v, %d\nwant %v", what, k, b, e, wanted)
	}
}

// holds fails where the device has other blocks.
func holds(t *testing.T, what string, d *block.Dev, blocks [][]byte) {
	t.Helper()
	if d.Len() != len(blocks) {
		t.Fatalf("%s: %d blocks, want %d", what, d.Len(), len(blocks))
	}
	for k, b := range blocks {
		reads(t, what, d, k, b)
	}
}

// unused fails where something was done with the device.
func unused(t *testing.T, what string, d *block.Dev) {
	t.Helper()
	if d.Ops() != 0 || d.Off() {
		t.Fatalf("%s: Ops %d, Off %v", what, d.Ops(), d.Off())
	}
}

// P15.1

func TestNew(t *testing.T) {
	for _, n := range []int{0, -1, -64, math.MinInt, api.MaxBlocks + 1, 1 << 31, math.MaxInt} {
		d, e := block.New(n)
		if e != api.ErrArg || d != nil {
			t.Errorf("New(%d): %v, %d", n, d, e)
		}
	}
	for _, n := range []int{1, 2, 63, 64, 2048, api.MaxBlocks - 1, api.MaxBlocks} {
		d := dev(t, n)
		unused(t, "New", d)
		if d.Len() != n {
			t.Errorf("New(%d): %d blocks", n, d.Len())
		}
		for k := range n {
			reads(t, "New", d, k, none())
		}
		_, e := d.Read(n)
		is(t, "Read behind the last", e, api.ErrArg)
	}
}

func TestReadIsWhatWasWrittenLast(t *testing.T) {
	d := dev(t, 5)
	all := [][]byte{none(), none(), none(), none(), none()}
	for i := range 60 {
		k := i * 7 % 5
		all[k] = fill(byte(i))
		write(t, d, k, all[k])
		holds(t, "behind a Write", d, all)
		if i%11 == 0 {
			is(t, "Flush", d.Flush(), api.OK)
			holds(t, "behind a Flush", d, all)
		}
	}
	write(t, d, 3, none())
	all[3] = none()
	holds(t, "noughts again", d, all)
}

func TestTheGreatestDevice(t *testing.T) {
	d := dev(t, api.MaxBlocks)
	places := []int{0, 1, 255, 256, 32767, 32768, 65534, 65535}
	for i, k := range places {
		write(t, d, k, fill(byte(i)), fill(byte(i+100)))
	}
	c := d.Copy()
	is(t, "Flush", d.Flush(), api.OK)
	for i, k := range places {
		reads(t, "a crash", d.Crash(0), k, fill(byte(i+100)))
		reads(t, "a crash of a copy", c.Crash(1, 2, 3), k, [][]byte{torn(fill(byte(i)), none()), fill(byte(i)), torn(fill(byte(i+100)), fill(byte(i)))}[i%3])
		reads(t, "the next one", d, k^128, none())
	}
}

// wrong is bytes that no block may be.
func wrong() [][]byte {
	return [][]byte{nil, {}, {1}, fill(1)[:63], fill(1)[1:], append(fill(1), 1), make([]byte, 128), make([]byte, 0, 64)}
}

// outside is numbers that none of four blocks has.
func outside() []int { return []int{-1, 4, 5, -4, 64, math.MinInt, math.MaxInt, 1 << 32} }

func TestErrArgDoesNothing(t *testing.T) {
	d := dev(t, 4)
	write(t, d, 1, fill(1))
	d.Cut(1)
	all := [][]byte{none(), fill(1), none(), none()}
	refused := func(ops int, off bool) {
		t.Helper()
		for _, k := range outside() {
			is(t, "Write to no block", d.Write(k, fill(9)), api.ErrArg)
			is(t, "Write of no block to none", d.Write(k, nil), api.ErrArg)
			b, e := d.Read(k)
			is(t, "Read of no block", e, api.ErrArg)
			if b != nil {
				t.Errorf("Read(%d) tells %v", k, b)
			}
		}
		for _, b := range wrong() {
			is(t, "Write of no block", d.Write(1, b), api.ErrArg)
		}
		holds(t, "behind ErrArg", d, all)
		holds(t, "a crash behind ErrArg", d.Crash(2), all)
		if d.Ops() != ops || d.Off() != off {
			t.Fatalf("Ops %d, Off %v, want %d, %v", d.Ops(), d.Off(), ops, off)
		}
	}
	refused(1, false)
	write(t, d, 2, fill(2))
	all[2] = fill(2)
	refused(2, false)
	is(t, "Write", d.Write(2, fill(3)), api.ErrOff)
	// Off: ErrArg is still told ahead of ErrOff, and is no op.
	refused(3, true)
}

func TestCopyIsJustAsItIs(t *testing.T) {
	d := dev(t, 3)
	write(t, d, 0, fill(1))
	is(t, "Flush", d.Flush(), api.OK)
	write(t, d, 0, fill(2), fill(3))
	write(t, d, 2, fill(4))
	d.Cut(2)
	c := d.Copy()
	for _, x := range []*block.Dev{c, c.Copy(), d, d.Copy()} {
		holds(t, "a copy", x, [][]byte{fill(3), none(), fill(4)})
		holds(t, "its crash", x.Crash(), [][]byte{fill(1), none(), none()})
		holds(t, "its crash", x.Crash(3, 1), [][]byte{torn(fill(3), fill(2)), none(), torn(fill(4), none())})
		if x.Ops() != 5 || x.Off() {
			t.Errorf("Ops %d, Off %v", x.Ops(), x.Off())
		}
		write(t, x, 1, fill(5))
		is(t, "Flush", x.Flush(), api.OK)
		is(t, "Write", x.Write(1, fill(6)), api.ErrOff)
	}
	off := d.Copy()
	holds(t, "a copy that is off", off, [][]byte{fill(3), fill(5), fill(4)})
	if off.Ops() != 8 || !off.Off() {
		t.Errorf("off: Ops %d, Off %v", off.Ops(), off.Off())
	}
	off.Cut(5)
	is(t, "Flush of a copy that is off", off.Flush(), api.ErrOff)
}

// However many writes are pending, what is written to one is not seen in the other.
func TestCopiesGoOnByThemselves(t *testing.T) {
	for n := range 40 {
		d := dev(t, 2)
		for i := range n {
			write(t, d, 0, fill(byte(i)))
		}
		c := d.Copy()
		write(t, d, 0, fill(100))
		write(t, c, 0, fill(200))
		write(t, d, 1, fill(101))
		reads(t, "the one", d, 0, fill(100))
		reads(t, "the other", c, 0, fill(200))
		reads(t, "the other", c, 1, none())
		reads(t, "a crash of the one", d.Crash(2*n+2), 0, fill(100))
		reads(t, "a crash of the other", c.Crash(2*n+2), 0, fill(200))
		is(t, "Flush", c.Flush(), api.OK)
		reads(t, "a crash of the one", d.Crash(), 0, none())
		reads(t, "a crash of the other", c.Crash(), 0, fill(200))
		d.Cut(0)
		is(t, "Flush", d.Flush(), api.ErrOff)
		if c.Off() || c.Ops() != n+2 || d.Ops() != n+3 {
			t.Errorf("Off %v, Ops %d and %d", c.Off(), c.Ops(), d.Ops())
		}
	}
}

func TestDevicesHaveNothingInCommon(t *testing.T) {
	a, b := dev(t, 2), dev(t, 2)
	write(t, a, 0, fill(1))
	b.Cut(0)
	is(t, "Flush", b.Flush(), api.ErrOff)
	is(t, "Flush", a.Flush(), api.OK)
	holds(t, "the one", a, [][]byte{fill(1), none()})
	holds(t, "the other", b, [][]byte{none(), none()})
	if a.Ops() != 2 || b.Ops() != 1 || a.Off() || !b.Off() {
		t.Errorf("Ops %d, %d", a.Ops(), b.Ops())
	}
}

// P15.2

// op does the i-th of a row of ops.
func op(d *block.Dev, i int) api.Errno {
	if i%3 == 2 {
		return d.Flush()
	}
	return d.Write(i%2, fill(byte(i)))
}

func TestCut(t *testing.T) {
	for _, n := range []int{math.MinInt, -7, -1, 0, 1, 2, 3, 10, 31} {
		for ahead := range 4 {
			d := dev(t, 2)
			for i := range ahead {
				is(t, "an op ahead of the cut", op(d, i), api.OK)
			}
			d.Cut(n)
			for i := range max(n, 0) {
				is(t, "an op behind the cut", op(d, ahead+i), api.OK)
				if d.Off() || d.Ops() != ahead+i+1 {
					t.Fatalf("Cut(%d), op %d: Off %v, Ops %d", n, i, d.Off(), d.Ops())
				}
			}
			if d.Off() {
				t.Fatalf("Cut(%d): Off ahead of the first one that is refused", n)
			}
			for i := range 7 {
				is(t, "an op when the power is off", op(d, i), api.ErrOff)
				if !d.Off() || d.Ops() != ahead+max(n, 0)+i+1 {
					t.Fatalf("Cut(%d): Off %v, Ops %d", n, d.Off(), d.Ops())
				}
			}
		}
	}
}

func TestFarCut(t *testing.T) {
	d := dev(t, 2)
	write(t, d, 0, fill(0))
	d.Cut(math.MaxInt)
	for i := range 500 {
		is(t, "an op", op(d, i), api.OK)
	}
	if d.Off() || d.Ops() != 501 {
		t.Errorf("Off %v, Ops %d", d.Off(), d.Ops())
	}
}

func TestALaterCutTakesItsPlace(t *testing.T) {
	for _, c := range []struct{ first, done, second, more int }{
		{5, 0, 2, 2}, {5, 3, 2, 2}, {5, 3, 9, 9}, {2, 2, 3, 3}, {0, 0, 4, 4}, {-3, 0, 1, 1}, {1, 1, -2, 0}, {9, 4, 0, 0}, {1, 0, 1, 1},
	} {
		d := dev(t, 2)
		d.Cut(c.first)
		for i := range c.done {
			is(t, "an op", op(d, i), api.OK)
		}
		d.Cut(c.second)
		for i := range c.more {
			is(t, "an op behind the second cut", op(d, i), api.OK)
		}
		is(t, "an op too many", op(d, 0), api.ErrOff)
		// Now one was refused: no Cut helps any more.
		for _, n := range []int{0, 1, 50, math.MaxInt, -1} {
			d.Cut(n)
			is(t, "Write when the power is off", op(d, 0), api.ErrOff)
			is(t, "Flush when the power is off", op(d, 2), api.ErrOff)
			if !d.Off() {
				t.Fatal("not off any more")
			}
		}
	}
}

func TestWhatIsRefusedDoesNothing(t *testing.T) {
	d := dev(t, 3)
	write(t, d, 0, fill(1))
	is(t, "Flush", d.Flush(), api.OK)
	write(t, d, 0, fill(2))
	write(t, d, 2, fill(3))
	d.Cut(0)
	for range 3 {
		is(t, "Write", d.Write(0, fill(7)), api.ErrOff)
		is(t, "Write", d.Write(1, fill(8)), api.ErrOff)
		is(t, "Flush", d.Flush(), api.ErrOff)
		holds(t, "a device", d, [][]byte{fill(2), none(), fill(3)})
		holds(t, "a crash", d.Crash(), [][]byte{fill(1), none(), none()})
		holds(t, "a crash", d.Crash(1, 2), [][]byte{torn(fill(2), fill(1)), none(), fill(3)})
		holds(t, "a crash", d.Crash(3), [][]byte{fill(1), none(), none()})
	}
	if d.Ops() != 13 {
		t.Errorf("Ops %d", d.Ops())
	}
}

func TestOnlyWriteAndFlushAreOps(t *testing.T) {
	d := dev(t, 2)
	d.Cut(2)
	for range 5 {
		d.Read(0)
		d.Read(7)
		d.Write(7, fill(1))
		d.Write(0, nil)
		d.Crash(1)
		d.Copy()
		d.Cut(2)
		if d.Len() != 2 || d.Off() || d.Ops() != 0 {
			t.Fatalf("Len %d, Off %v, Ops %d", d.Len(), d.Off(), d.Ops())
		}
	}
	is(t, "Flush", d.Flush(), api.OK)
	is(t, "Flush with nothing pending", d.Flush(), api.OK)
	is(t, "Flush", d.Flush(), api.ErrOff)
	if d.Ops() != 3 {
		t.Errorf("Ops %d", d.Ops())
	}
}

// P15.3

func TestExamples(t *testing.T) {
	d := dev(t, 1)
	write(t, d, 0, fill(5))
	reads(t, "Crash(2)", d.Crash(2), 0, fill(5))
	reads(t, "Crash(1)", d.Crash(1), 0, torn(fill(5), none()))
	reads(t, "Crash()", d.Crash(), 0, none())
}

func TestEachPick(t *testing.T) {
	for w := range 6 {
		d := dev(t, 1)
		write(t, d, 0, fill(50))
		is(t, "Flush", d.Flush(), api.OK)
		ends := [][]byte{fill(50)}
		for i := range w {
			write(t, d, 0, fill(byte(i)))
			ends = append(ends, torn(fill(byte(i)), ends[len(ends)-1]), fill(byte(i)))
		}
		m := 2*w + 1
		for p, b := range ends {
			for _, turns := range []int{0, 1, -1, 2, -2, 1000, -1000, 1 << 40, -1 << 40} {
				reads(t, "a crash", d.Crash(p+turns*m), 0, b)
				reads(t, "a crash", d.Crash(p+turns*m, 1, 2), 0, b)
			}
		}
		for _, p := range []int{math.MaxInt, math.MinInt, math.MaxInt - 1, math.MinInt + 1} {
			reads(t, "a crash", d.Crash(p), 0, ends[(p%m+m)%m])
		}
		reads(t, "a crash of no picks", d.Crash(), 0, ends[0])
		reads(t, "a crash of no picks", d.Crash([]int{}...), 0, ends[0])
		reads(t, "a crash of no picks", d.Crash([]int(nil)...), 0, ends[0])
	}
}

// A write that turned nothing is pending as any other.
func TestWritesOfTheSameBytesArePending(t *testing.T) {
	d := dev(t, 2)
	write(t, d, 0, none(), none(), fill(1))
	write(t, d, 1, fill(2))
	for p, b := range [][]byte{none(), none(), none(), none(), none(), torn(fill(1), none()), fill(1)} {
		holds(t, "a crash", d.Crash(p, 2), [][]byte{b, fill(2)})
		holds(t, "a crash", d.Crash(p-7, 2), [][]byte{b, fill(2)})
	}
	c := dev(t, 2)
	write(t, c, 0, none())
	write(t, c, 1, fill(2))
	holds(t, "a crash", c.Crash(0, 2), [][]byte{none(), fill(2)})
}

func TestPicksGoByRisingNumbers(t *testing.T) {
	const n = 40
	d := dev(t, n)
	for k := range n {
		write(t, d, k, fill(byte(100+k)))
	}
	is(t, "Flush", d.Flush(), api.OK)
	var pending []int
	// Written in another order, not each of them: those with nothing pending take no pick.
	for i := range n {
		if k := i * 23 % n; k%3 != 1 {
			write(t, d, k, fill(byte(k)))
			pending = append(pending, k)
		}
	}
	slices.Sort(pending)
	for _, picks := range [][]int{{0, 1, 2}, {2, 0}, {2, 0, 0, 0, 0, 0, 1}, {1}, {-1, 5, 6, 7, -9}} {
		var all [][]byte
		for k := range n {
			b := fill(byte(100 + k))
			if at, ok := slices.BinarySearch(pending, k); ok {
				b = [][]byte{b, torn(fill(byte(k)), b), fill(byte(k))}[(picks[at%len(picks)]%3+3)%3]
			}
			all = append(all, b)
		}
		for range 5 {
			holds(t, "a crash", d.Crash(picks...), all)
		}
	}
}

// More picks than blocks with pending writes: those beyond are of no use.
func TestPicksTooMany(t *testing.T) {
	d := dev(t, 3)
	write(t, d, 1, fill(1))
	holds(t, "a crash", d.Crash(2, 0, 0, 1, 1), [][]byte{none(), fill(1), none()})
	holds(t, "a crash", dev(t, 1).Crash(1, 2, 3), [][]byte{none()})
}

func TestCrashIsANewDevice(t *testing.T) {
	d := dev(t, 2)
	write(t, d, 0, fill(1), fill(2))
	d.Cut(0)
	is(t, "Flush", d.Flush(), api.ErrOff)
	c := d.Crash(1)
	unused(t, "a crash", c)
	for p := range 5 {
		holds(t, "a crash of a crash", c.Crash(p), [][]byte{torn(fill(1), none()), none()})
	}
	for i := range 9 {
		is(t, "an op behind a crash", op(c, i), api.OK)
	}
	if c.Ops() != 9 || c.Off() {
		t.Errorf("Ops %d, Off %v", c.Ops(), c.Off())
	}
}

func TestCrashChangesNothing(t *testing.T) {
	d := dev(t, 2)
	write(t, d, 0, fill(1), fill(2))
	d.Cut(1)
	for p := range 10 {
		write(t, d.Crash(p), 0, fill(9))
		holds(t, "what crashed", d, [][]byte{fill(2), none()})
		holds(t, "another crash", d.Crash(2), [][]byte{fill(1), none()})
		if d.Ops() != 2 || d.Off() {
			t.Errorf("what crashed: Ops %d, Off %v", d.Ops(), d.Off())
		}
	}
	is(t, "Flush", d.Flush(), api.OK)
	is(t, "Flush", d.Flush(), api.ErrOff)
	holds(t, "a crash", d.Crash(1), [][]byte{fill(2), none()})
}

// P15.4

func TestNilAndZeroDevices(t *testing.T) {
	for what, d := range map[string]*block.Dev{"a nil one": nil, "a zero one": {}, "another zero one": new(block.Dev)} {
		for range 3 {
			for _, k := range []int{0, 1, -1, math.MaxInt, math.MinInt} {
				is(t, what+": Write", d.Write(k, fill(1)), api.ErrArg)
				is(t, what+": Write", d.Write(k, nil), api.ErrArg)
				b, e := d.Read(k)
				is(t, what+": Read", e, api.ErrArg)
				if b != nil {
					t.Errorf("%s: Read tells %v", what, b)
				}
			}
			is(t, what+": Flush", d.Flush(), api.ErrOff)
			if d.Len() != 0 || d.Ops() != 0 || !d.Off() {
				t.Errorf("%s: Len %d, Ops %d, Off %v", what, d.Len(), d.Ops(), d.Off())
			}
			if d.Crash() != nil || d.Crash(1, 2) != nil || d.Copy() != nil {
				t.Errorf("%s: Crash or Copy tells one", what)
			}
			d.Cut(5)
		}
	}
}

// P15.5

func TestWhatWasFlushedNoCrashTakes(t *testing.T) {
	d := dev(t, 3)
	write(t, d, 0, fill(1), fill(2))
	write(t, d, 1, fill(3))
	is(t, "Flush", d.Flush(), api.OK)
	write(t, d, 2, fill(4))
	d.Cut(1)
	write(t, d, 2, fill(5))
	is(t, "Write", d.Write(0, fill(6)), api.ErrOff)
	is(t, "Flush", d.Flush(), api.ErrOff)
	for p := -6; p < 7; p++ {
		for q := -6; q < 7; q++ {
			c := d.Crash(p, q)
			reads(t, "a crash", c, 0, fill(2))
			reads(t, "a crash", c, 1, fill(3))
			reads(t, "a crash of a crash", c.Crash(q, p), 0, fill(2))
		}
	}
}

func TestNothingHandedInIsChangedOrKept(t *testing.T) {
	d := dev(t, 2)
	given := append(fill(1), 7, 8, 9)
	for k := range 2 {
		b := given[:64:66]
		write(t, d, k, b)
		if !bytes.Equal(given, append(fill(1), 7, 8, 9)) {
			t.Fatal("what was handed in was changed")
		}
		clear(b)
		reads(t, "Read", d, k, fill(1))
		copy(b, fill(1))
	}
	picks := []int{-1, 7, 9}
	c := d.Crash(picks[:2]...)
	if !slices.Equal(picks, []int{-1, 7, 9}) {
		t.Error("the picks were changed")
	}
	clear(picks)
	clear(given)
	holds(t, "a crash", c, [][]byte{fill(1), torn(fill(1), none())})
}

func TestWhatIsAnsweredIsNewMemory(t *testing.T) {
	d := dev(t, 3)
	write(t, d, 0, fill(1))
	is(t, "Flush", d.Flush(), api.OK)
	write(t, d, 1, fill(2))
	all := [][]byte{fill(1), fill(2), none()}
	for k := range 3 {
		for range 2 {
			b, _ := d.Read(k)
			for i := range b[:cap(b)] {
				b[:cap(b)][i] = 99
			}
			holds(t, "a device", d, all)
		}
	}
	is(t, "Flush", d.Flush(), api.OK)
	holds(t, "a device behind a Flush", d, all)
	holds(t, "a crash", d.Crash(), all)
}

// What a crash, a copy and a device hold is each one's own.
func TestCrashesShareNothing(t *testing.T) {
	d := dev(t, 2)
	write(t, d, 0, fill(1))
	is(t, "Flush", d.Flush(), api.OK)
	a, b, c := d.Crash(), d.Crash(), d.Copy()
	for i, x := range []*block.Dev{a, b, c, d} {
		write(t, x, 0, fill(byte(10+i)))
		is(t, "Flush", x.Flush(), api.OK)
	}
	for i, x := range []*block.Dev{a, b, c, d} {
		holds(t, "one of them", x, [][]byte{fill(byte(10 + i)), none()})
		holds(t, "its crash", x.Crash(2), [][]byte{fill(byte(10 + i)), none()})
	}
}
