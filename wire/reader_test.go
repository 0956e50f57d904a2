package wire_test

import (
	"bytes"
	"encoding/binary"
	"errors"
	"math"
	"math/rand"
	"runtime"
	"slices"
	"testing"

	"missive/api"
	"missive/wire"
)

// left is what f panics with, or nil.
func left(f func()) (x any) {
	defer func() { x = recover() }()
	f()
	return nil
}

// refuses fails where f does not panic with just that number, or where a Reader of b does not stand behind it where it stood.
func refuses(t *testing.T, what string, b []byte, wanted api.Errno, f func(r *wire.Reader)) {
	t.Helper()
	r := wire.NewReader(b)
	if x := left(func() { f(r) }); x != any(wanted) {
		t.Fatalf("%s of %v: it panics with %v, not with %d", what, b, x, wanted)
	}
	want(t, what+": what is left", r.Fixed(len(b)), b)
	if e := wire.Read(b, f); e != wanted {
		t.Fatalf("%s of %v: Read tells %d, not %d", what, b, e, wanted)
	}
}

// reads fails where f panics, or does not read all of b.
func reads(t *testing.T, what string, b []byte, f func(r *wire.Reader)) {
	t.Helper()
	r := wire.NewReader(b)
	if x := left(func() { f(r) }); x != nil {
		t.Fatalf("%s of %v: it panics with %v", what, b, x)
	}
	if x := left(r.End); x != nil {
		t.Fatalf("%s of %v: not all of it was read", what, b)
	}
	if e := wire.Read(b, f); e != api.OK {
		t.Fatalf("%s of %v: Read tells %d", what, b, e)
	}
}

// lists fails where both are not alike.
func lists(t *testing.T, what string, got, wanted [][]byte) {
	t.Helper()
	if !slices.EqualFunc(got, wanted, bytes.Equal) {
		t.Fatalf("%s:\n got %v\nwant %v", what, got, wanted)
	}
}

// num reads one.
func num(r *wire.Reader) { r.Num() }

// P14.2

// numOf fails where Num of b is not what the library and the one form say of b.
func numOf(t *testing.T, b []byte) {
	t.Helper()
	n, size := binary.Uvarint(b)
	if size <= 0 || !bytes.Equal(binary.AppendUvarint(nil, n), b[:size]) {
		refuses(t, "Num", b, api.ErrBad, num)
		return
	}
	r := wire.NewReader(b)
	if got := r.Num(); got != n {
		t.Fatalf("Num of %v: got %d, want %d", b, got, n)
	}
	want(t, "what is left behind Num", r.Fixed(len(b)-size), b[size:])
}

func TestReadNum(t *testing.T) {
	for _, n := range edges() {
		b := binary.AppendUvarint(nil, n)
		numOf(t, b)
		numOf(t, append(b, 77))
		for k := range b {
			numOf(t, b[:k])
		}
		// The same number with a group 0, or with two, at its end.
		longer := slices.Clone(b)
		longer[len(b)-1] |= 128
		numOf(t, append(slices.Clone(longer), 0))
		numOf(t, append(slices.Clone(longer), 128, 0))
	}
}

func TestReadNumOfAllShortOnes(t *testing.T) {
	numOf(t, nil)
	for i := range 256 {
		numOf(t, []byte{byte(i)})
		for j := range 256 {
			numOf(t, []byte{byte(i), byte(j)})
		}
	}
}

func TestReadNumOfLongOnes(t *testing.T) {
	ends := []byte{0, 1, 2, 3, 64, 127, 128, 129, 130, 255}
	for n := range 13 {
		for _, fill := range []byte{128, 129, 255} {
			start := bytes.Repeat([]byte{fill}, n)
			numOf(t, start)
			for _, x := range ends {
				for _, y := range ends {
					numOf(t, slices.Concat(start, []byte{x, y}))
				}
			}
		}
	}
}

func TestNumsThatAreNone(t *testing.T) {
	nine := bytes.Repeat([]byte{255}, 9)
	for what, b := range map[string][]byte{
		"no bytes":             nil,
		"an end":               {128},
		"a group 0 at the end": {128, 0},
		"1 with a group 0":     {129, 0},
		"nine groups, a 0":     append(bytes.Repeat([]byte{255}, 8), 0),
		"ten groups, a 0":      append(slices.Clone(nine), 0),
		"2^64":                 {128, 128, 128, 128, 128, 128, 128, 128, 128, 2},
		"2^65 - 1":             append(slices.Clone(nine), 3),
		"2^70 - 1":             append(slices.Clone(nine), 127),
		"ten groups, an end":   append(slices.Clone(nine), 255),
		"eleven groups":        append(slices.Clone(nine), 129, 1),
		"eleven groups, a 0":   append(slices.Clone(nine), 129, 0),
		"a hundred groups":     append(bytes.Repeat([]byte{128}, 99), 1),
	} {
		refuses(t, what, b, api.ErrBad, num)
		refuses(t, what+" as Bytes", b, api.ErrBad, func(r *wire.Reader) { r.Bytes(math.MaxInt) })
		refuses(t, what+" as a List", b, api.ErrBad, func(r *wire.Reader) { r.List(math.MaxInt, math.MaxInt) })
		refuses(t, what+" in a List", append([]byte{1}, b...), api.ErrBad, func(r *wire.Reader) { r.List(1, math.MaxInt) })
	}
}

func TestNumIsAMethodValue(t *testing.T) {
	r := wire.NewReader([]byte{1, 0xac, 0x02, 3})
	next := r.Num
	if a, b, c := next(), next(), r.Num(); a != 1 || b != 300 || c != 3 {
		t.Errorf("got %d, %d, %d", a, b, c)
	}
	if x := left(func() { next() }); x != any(api.ErrBad) {
		t.Errorf("behind the end: %v", x)
	}
}

func TestReadBytes(t *testing.T) {
	for _, n := range sizes() {
		b := text(n, 3)
		for _, most := range []int{n, n + 1, 2*n + 5, math.MaxInt} {
			reads(t, "Bytes", otherBytes(b), func(r *wire.Reader) { want(t, "Bytes", r.Bytes(most), b) })
		}
		r := wire.NewReader(append(otherBytes(b), 9, 8))
		want(t, "Bytes", r.Bytes(n), b)
		want(t, "what is left", r.Fixed(2), []byte{9, 8})
	}
}

func TestBytesRefuses(t *testing.T) {
	for _, n := range []int{1, 2, 127, 128, 300} {
		b := otherBytes(text(n, 3))
		for k := range b {
			refuses(t, "Bytes cut", b[:k], api.ErrBad, func(r *wire.Reader) { r.Bytes(n) })
		}
		refuses(t, "Bytes", b, api.ErrBig, func(r *wire.Reader) { r.Bytes(n - 1) })
		refuses(t, "Bytes", b, api.ErrBig, func(r *wire.Reader) { r.Bytes(0) })
		// What is too much is told ahead of what is not there.
		refuses(t, "Bytes cut", b[:len(b)-1], api.ErrBig, func(r *wire.Reader) { r.Bytes(n - 1) })
		refuses(t, "Bytes cut", b[:len(b)-n], api.ErrBig, func(r *wire.Reader) { r.Bytes(n - 1) })
	}
	for _, n := range []uint64{math.MaxInt32, 1 << 40, math.MaxInt64, 1 << 63, math.MaxUint64} {
		b := append(binary.AppendUvarint(nil, n), 1, 2, 3)
		for _, most := range []int{0, 3, math.MaxInt32 - 1} {
			refuses(t, "Bytes", b, api.ErrBig, func(r *wire.Reader) { r.Bytes(most) })
		}
		wanted := api.ErrBad
		if n > math.MaxInt {
			wanted = api.ErrBig
		}
		refuses(t, "Bytes", b, wanted, func(r *wire.Reader) { r.Bytes(math.MaxInt) })
	}
}

func TestLimitsBelowNought(t *testing.T) {
	for _, n := range []int{-1, -2, -300, math.MinInt} {
		for _, b := range [][]byte{nil, {0}, {1}, {1, 1}, {2, 0, 0}, {128}, {9, 9}, binary.AppendUvarint(nil, math.MaxUint64)} {
			refuses(t, "Bytes", b, api.ErrBad, func(r *wire.Reader) { r.Bytes(n) })
			refuses(t, "List", b, api.ErrBad, func(r *wire.Reader) { r.List(n, 5) })
			refuses(t, "List", b, api.ErrBad, func(r *wire.Reader) { r.List(0, n) })
			refuses(t, "List", b, api.ErrBad, func(r *wire.Reader) { r.List(5, n) })
			refuses(t, "List", b, api.ErrBad, func(r *wire.Reader) { r.List(n, n) })
			refuses(t, "Fixed", b, api.ErrBad, func(r *wire.Reader) { r.Fixed(n) })
		}
	}
}

func TestReadList(t *testing.T) {
	reads(t, "List", []byte{0}, func(r *wire.Reader) { lists(t, "List of none", r.List(0, 0), nil) })
	reads(t, "List", []byte{2, 0, 0}, func(r *wire.Reader) { lists(t, "List of empty ones", r.List(2, 0), [][]byte{nil, nil}) })
	var l [][]byte
	for _, n := range sizes() {
		l = append(l, text(n, 5))
		for _, more := range []int{0, 1, 1000} {
			reads(t, "List", otherList(l), func(r *wire.Reader) { lists(t, "List", r.List(len(l)+more, n+more), l) })
		}
		reads(t, "List", otherList(l), func(r *wire.Reader) { lists(t, "List", r.List(math.MaxInt, math.MaxInt), l) })
	}
	many := make([][]byte, 20000)
	reads(t, "List", otherList(many), func(r *wire.Reader) { lists(t, "List of many", r.List(20000, 0), many) })
	r := wire.NewReader([]byte{2, 1, 5, 0, 9, 8})
	lists(t, "List", r.List(2, 1), [][]byte{{5}, {}})
	want(t, "what is left", r.Fixed(2), []byte{9, 8})
}

func TestListRefuses(t *testing.T) {
	l := [][]byte{{1, 2, 3}, nil, text(130, 3), {4}}
	b := otherList(l)
	for k := range b {
		refuses(t, "List cut", b[:k], api.ErrBad, func(r *wire.Reader) { r.List(4, 130) })
	}
	refuses(t, "List", b, api.ErrBig, func(r *wire.Reader) { r.List(3, 130) })
	refuses(t, "List", b, api.ErrBig, func(r *wire.Reader) { r.List(0, 130) })
	refuses(t, "List", b, api.ErrBig, func(r *wire.Reader) { r.List(4, 129) })
	refuses(t, "List", b, api.ErrBig, func(r *wire.Reader) { r.List(4, 0) })
	// What is too much is told ahead of what is not there.
	refuses(t, "List cut", b[:1], api.ErrBig, func(r *wire.Reader) { r.List(3, 130) })
	refuses(t, "List cut", b[:2], api.ErrBig, func(r *wire.Reader) { r.List(4, 2) })
	refuses(t, "List cut", b[:9], api.ErrBig, func(r *wire.Reader) { r.List(4, 129) })
	refuses(t, "List", []byte{9, 3}, api.ErrBig, func(r *wire.Reader) { r.List(9, 2) })
	// One list behind the other: the first one that is wrong is told.
	refuses(t, "List", []byte{2, 3, 1}, api.ErrBad, func(r *wire.Reader) { r.List(2, 3) })
	refuses(t, "List", []byte{2, 128, 0, 9}, api.ErrBad, func(r *wire.Reader) { r.List(2, 3) })
	refuses(t, "List", []byte{3, 1, 5, 9, 128, 0}, api.ErrBig, func(r *wire.Reader) { r.List(3, 3) })
}

// A List of which but the num is there makes no room for all that it tells of.
func TestListOfFarMoreThanThereIs(t *testing.T) {
	for _, n := range []uint64{1 << 30, 1 << 40, math.MaxInt64} {
		b := append(binary.AppendUvarint(nil, n), 0, 0, 1, 7)
		refuses(t, "List", b, api.ErrBad, func(r *wire.Reader) { r.List(math.MaxInt, math.MaxInt) })
		refuses(t, "List", b, api.ErrBig, func(r *wire.Reader) { r.List(int(n-1), math.MaxInt) })
		refuses(t, "List", b, api.ErrBig, func(r *wire.Reader) { r.List(math.MaxInt, 0) })
	}
	for _, n := range []uint64{1 << 63, math.MaxUint64} {
		b := append(binary.AppendUvarint(nil, n), 0, 0, 1, 7)
		refuses(t, "List", b, api.ErrBig, func(r *wire.Reader) { r.List(math.MaxInt, math.MaxInt) })
	}
}

func TestReadFixed(t *testing.T) {
	for _, n := range sizes() {
		b := text(n, 7)
		reads(t, "Fixed", b, func(r *wire.Reader) { want(t, "Fixed", r.Fixed(n), b) })
		reads(t, "Fixed", b, func(r *wire.Reader) {
			want(t, "Fixed of none", r.Fixed(0), nil)
			want(t, "Fixed of a half", r.Fixed(n/2), b[:n/2])
			want(t, "Fixed of the rest", r.Fixed(n-n/2), b[n/2:])
			want(t, "Fixed of none", r.Fixed(0), nil)
		})
		for _, m := range []int{n + 1, n + 8, 2*n + 9, math.MaxInt} {
			refuses(t, "Fixed", b, api.ErrBad, func(r *wire.Reader) { r.Fixed(m) })
			refuses(t, "Fixed of spare room", roomy(b), api.ErrBad, func(r *wire.Reader) { r.Fixed(m) })
		}
	}
}

func TestEnd(t *testing.T) {
	r := wire.NewReader([]byte{1, 2, 3})
	for k := range 3 {
		for range 2 {
			if x := left(r.End); x != any(api.ErrBad) {
				t.Errorf("End behind %d: %v", k, x)
			}
		}
		r.Num()
	}
	for range 2 {
		if x := left(r.End); x != nil {
			t.Errorf("End at the end: %v", x)
		}
	}
}

// What was refused may be read in another way.
func TestAReaderGoesOnBehindAPanic(t *testing.T) {
	r := wire.NewReader([]byte{7, 3, 1, 1, 2, 9, 4})
	r.Num()
	for _, f := range []func(){func() { r.Bytes(2) }, func() { r.List(2, 9) }, func() { r.List(3, 1) }, func() { r.List(3, 3) }, func() { r.Fixed(7) }, func() { r.Fixed(-1) }, r.End} {
		if left(f) == nil {
			t.Fatal("a call that should panic does not")
		}
	}
	want(t, "Bytes", r.Bytes(3), []byte{1, 1, 2})
	want(t, "Fixed", r.Fixed(2), []byte{9, 4})
	r.End()
}

func TestReadersHaveNothingInCommon(t *testing.T) {
	b := []byte{1, 2, 3}
	a, c := wire.NewReader(b), wire.NewReader(b)
	a.Num()
	d := *a
	a.Num()
	if x, y, z := a.Num(), c.Num(), d.Num(); x != 3 || y != 1 || z != 2 {
		t.Errorf("got %d, %d, %d", x, y, z)
	}
}

// P14.3

func TestReaderOfNoBytes(t *testing.T) {
	for _, r := range []*wire.Reader{nil, {}, new(wire.Reader), wire.NewReader(nil), wire.NewReader([]byte{})} {
		for range 2 {
			for what, f := range map[string]func(){
				"Num": func() { r.Num() }, "Bytes": func() { r.Bytes(5) }, "List": func() { r.List(5, 5) }, "Fixed": func() { r.Fixed(1) },
				"Bytes of -1": func() { r.Bytes(-1) }, "List of -1": func() { r.List(-1, 0) }, "List of 0, -1": func() { r.List(0, -1) }, "Fixed of -1": func() { r.Fixed(-1) },
			} {
				if x := left(f); x != any(api.ErrBad) {
					t.Errorf("%s: %v", what, x)
				}
			}
			if x := left(func() { want(t, "Fixed(0)", r.Fixed(0), nil) }); x != nil {
				t.Errorf("Fixed(0): %v", x)
			}
			if x := left(func() { r.End() }); x != nil {
				t.Errorf("End: %v", x)
			}
		}
	}
}

func TestReadIsAtTheBeginning(t *testing.T) {
	b, calls := []byte{5, 2, 8, 9}, 0
	e := wire.Read(b, func(r *wire.Reader) {
		calls++
		if n := r.Num(); n != 5 {
			t.Errorf("Num: %d", n)
		}
		want(t, "Bytes", r.Bytes(2), []byte{8, 9})
	})
	if e != api.OK || calls != 1 {
		t.Errorf("Read: %d, %d calls", e, calls)
	}
}

func TestReadEnds(t *testing.T) {
	for _, b := range [][]byte{{1}, {1, 2}, text(300, 3)} {
		for what, f := range map[string]func(r *wire.Reader){
			"a nil f":           nil,
			"nothing":           func(r *wire.Reader) {},
			"less than all":     func(r *wire.Reader) { r.Fixed(len(b) - 1) },
			"a panic of f's":    func(r *wire.Reader) { left(func() { r.Bytes(-1) }) },
			"another reader":    func(r *wire.Reader) { wire.NewReader(b).Fixed(len(b)) },
			"a copy of its own": func(r *wire.Reader) { c := *r; c.Fixed(len(b)) },
		} {
			if e := wire.Read(b, f); e != api.ErrBad {
				t.Errorf("Read by %s of %v: %d", what, b, e)
			}
		}
	}
	for _, b := range [][]byte{nil, {}} {
		if e := wire.Read(b, nil); e != api.OK {
			t.Errorf("Read of none by a nil f: %d", e)
		}
		if e := wire.Read(b, func(r *wire.Reader) {}); e != api.OK {
			t.Errorf("Read of none: %d", e)
		}
	}
}

func TestReadTellsEveryNumber(t *testing.T) {
	for _, e := range []api.Errno{api.ErrArg, api.ErrBad, api.ErrSig, api.ErrOff, api.ErrBig, api.ErrSpent, 99, -1, math.MaxInt, math.MinInt} {
		for _, b := range [][]byte{nil, {1, 2, 3}} {
			if got := wire.Read(b, func(r *wire.Reader) { panic(e) }); got != e {
				t.Errorf("Read: got %d, want %d", got, e)
			}
		}
		inner := func(r *wire.Reader) {
			defer func() { panic(e) }()
			r.Num()
		}
		if got := wire.Read(nil, inner); got != e {
			t.Errorf("Read of a panic in a panic: got %d, want %d", got, e)
		}
	}
}

// errno is no api.Errno.
type errno api.Errno

func TestOtherPanicsGoOn(t *testing.T) {
	err, e := errors.New("other"), api.ErrBad
	for _, x := range []any{"other", 7, 2, int64(2), errno(2), err, &e, 2.5, true, [1]api.Errno{2}, struct{ e api.Errno }{2}, api.OK} {
		for _, b := range [][]byte{nil, {1}} {
			if got := left(func() { wire.Read(b, func(r *wire.Reader) { panic(x) }) }); got != x {
				t.Errorf("Read: %T %v, not %T %v", got, got, x, x)
			}
		}
	}
	var none *runtime.PanicNilError
	got := left(func() { wire.Read(nil, func(r *wire.Reader) { panic(nil) }) })
	if err, ok := got.(error); !ok || !errors.As(err, &none) {
		t.Errorf("Read: %T %v", got, got)
	}
	var fault runtime.Error
	got = left(func() { wire.Read(nil, func(r *wire.Reader) { _ = r.Fixed(0)[len(err.Error())] }) })
	if err, ok := got.(error); !ok || !errors.As(err, &fault) {
		t.Errorf("Read: %T %v", got, got)
	}
}

func TestReadWithinRead(t *testing.T) {
	var inner api.Errno
	e := wire.Read([]byte{2, 5, 6, 1}, func(r *wire.Reader) {
		inner = wire.Read(r.Bytes(2), func(r *wire.Reader) { r.Num() })
		r.Num()
	})
	if inner != api.ErrBad || e != api.OK {
		t.Errorf("got %d, %d", inner, e)
	}
}

// P14.4

// thing is one of a row: how it is written, and how it is read and held against what was written.
type thing struct {
	write func(w *wire.Writer)
	read  func(t *testing.T, r *wire.Reader)
}

// drawnText is some bytes, mostly few.
func drawnText(rnd *rand.Rand) []byte {
	b := make([]byte, rnd.Intn([]int{1, 3, 20, 400}[rnd.Intn(4)]))
	rnd.Read(b)
	return b
}

// drawn is some thing.
func drawn(rnd *rand.Rand) thing {
	b := drawnText(rnd)
	switch rnd.Intn(4) {
	case 0:
		n := rnd.Uint64() >> rnd.Intn(64)
		return thing{func(w *wire.Writer) { w.Num(n) }, func(t *testing.T, r *wire.Reader) {
			if got := r.Num(); got != n {
				t.Fatalf("Num: got %d, want %d", got, n)
			}
		}}
	case 1:
		return thing{func(w *wire.Writer) { w.Bytes(b) }, func(t *testing.T, r *wire.Reader) { want(t, "Bytes", r.Bytes(len(b)), b) }}
	case 2:
		return thing{func(w *wire.Writer) { w.Fixed(b) }, func(t *testing.T, r *wire.Reader) { want(t, "Fixed", r.Fixed(len(b)), b) }}
	}
	var l [][]byte
	for range rnd.Intn(6) {
		l = append(l, drawnText(rnd))
	}
	return thing{func(w *wire.Writer) { w.List(l) }, func(t *testing.T, r *wire.Reader) { lists(t, "List", r.List(len(l), 400), l) }}
}

func TestWhatWasWrittenIsRead(t *testing.T) {
	rnd := rand.New(rand.NewSource(14))
	for range 2000 {
		w := &wire.Writer{}
		row := make([]thing, rnd.Intn(12))
		for i := range row {
			row[i] = drawn(rnd)
			row[i].write(w)
		}
		reads(t, "a row", w.Done(), func(r *wire.Reader) {
			for _, x := range row {
				x.read(t, r)
			}
		})
	}
}

// Whatever bytes there are: what is read of them, written again, is these bytes.
func TestOneForm(t *testing.T) {
	rnd := rand.New(rand.NewSource(41))
	few := []byte{0, 1, 2, 3, 5, 127, 128, 129, 255}
	read := 0
	for range 100000 {
		b := make([]byte, rnd.Intn(14))
		for i := range b {
			b[i] = few[rnd.Intn(len(few))]
		}
		w, r := &wire.Writer{}, wire.NewReader(b)
		x := left(func() {
			for range 3 {
				switch rnd.Intn(4) {
				case 0:
					w.Num(r.Num())
				case 1:
					w.Bytes(r.Bytes(4))
				case 2:
					w.List(r.List(3, 4))
				case 3:
					w.Fixed(r.Fixed(2))
				}
				read++
			}
		})
		if x != nil && x != any(api.ErrBad) && x != any(api.ErrBig) {
			t.Fatalf("%v: it panics with %v", b, x)
		}
		got := w.Done()
		if len(got) > len(b) {
			t.Fatalf("%v: written again: %v", b, got)
		}
		want(t, "written again", got, b[:len(got)])
		want(t, "what is left", r.Fixed(len(b)-len(got)), b[len(got):])
	}
	if read < 10000 {
		t.Errorf("only %d things were read", read)
	}
}

func TestReaderChangesAndKeepsNothing(t *testing.T) {
	row := slices.Concat([]byte{5}, otherBytes(text(9, 3)), otherList([][]byte{text(4, 5), text(8, 5)}), text(6, 7))
	b := roomy(row)
	r := wire.NewReader(b)
	want(t, "what was handed in", whole(b), whole(roomy(row)))
	fill(b)
	if n := r.Num(); n != 5 {
		t.Errorf("Num: %d", n)
	}
	want(t, "Bytes", r.Bytes(9), text(9, 3))
	lists(t, "List", r.List(2, 8), [][]byte{text(4, 5), text(8, 5)})
	want(t, "Fixed", r.Fixed(6), text(6, 7))

	b = roomy(row)
	e := wire.Read(b, func(r *wire.Reader) {
		fill(b)
		want(t, "all", r.Fixed(len(row)), row)
	})
	if e != api.OK {
		t.Errorf("Read: %d", e)
	}
}

func TestWhatIsReadIsNewMemory(t *testing.T) {
	row := slices.Concat(otherBytes(text(9, 3)), otherList([][]byte{text(4, 5), {}, text(8, 5)}), text(6, 7), []byte{3})
	b := slices.Clone(row)
	r := wire.NewReader(b)
	again := *r
	one := r.Bytes(9)
	fill(one)
	l := r.List(3, 8)
	// Each has memory of its own, its spare room too.
	fill(l[0])
	want(t, "the last one", l[2], text(8, 5))
	fill(append(l[1], 1))
	want(t, "the last one", l[2], text(8, 5))
	fill(l[2])
	two := r.Fixed(6)
	want(t, "Fixed", two, text(6, 7))
	fill(two)
	if n := r.Num(); n != 3 {
		t.Errorf("Num: %d", n)
	}
	want(t, "what was handed in", b, row)
	want(t, "a reader that stands at the beginning", again.Fixed(len(row)), row)
}
