package seal_test

import (
	"bytes"
	"crypto/aes"
	"crypto/cipher"
	"crypto/hkdf"
	"crypto/hmac"
	"crypto/sha256"
	"encoding/binary"
	"slices"
	"testing"

	"missive/api"
	"missive/flat"
	"missive/seal"
	"missive/sha2"
)

// most is how many bytes a text has at most, and data too; markSize is how many more its box has.
const (
	most     = 1 << 16
	markSize = 32
)

// work is what the four calls are once they have a key.
type work func(nonce, data, b []byte) ([]byte, api.Errno)

// drawn is n bytes, 32 at most, that have that name and number.
func drawn(name string, k, n int) []byte {
	return sha2.Sum256(flat.Put32(uint32(k)), []byte(name))[:n]
}

// text is n bytes by a pattern that k turns.
func text(n, k int) []byte {
	out := make([]byte, n)
	for i := range out {
		out[i] = byte(i*k + i/251 + n)
	}
	return out
}

// told fails where e is not wanted.
func told(t *testing.T, what string, e, wanted api.Errno) {
	t.Helper()
	if e != wanted {
		t.Fatalf("%s: got %d, want %d", what, e, wanted)
	}
}

// want fails where got is not wanted.
func want(t *testing.T, what string, got, wanted []byte) {
	t.Helper()
	if !bytes.Equal(got, wanted) {
		t.Fatalf("%s:\n got %s\nwant %s", what, flat.Hex(got), flat.Hex(wanted))
	}
}

// other is what another program than this one makes of the two calls.
type other struct{ key, mark []byte }

// newOther is that of key.
func newOther(t *testing.T, key []byte) other {
	t.Helper()
	b, err := hkdf.Key(sha256.New, key, nil, "seal", 64)
	if err != nil {
		t.Fatal(err)
	}
	return other{b[:32], b[32:]}
}

// crypt is AES-256 in counter mode, from 0 on.
func (o other) crypt(t *testing.T, nonce, b []byte) []byte {
	t.Helper()
	c, err := aes.NewCipher(o.key)
	if err != nil {
		t.Fatal(err)
	}
	out := make([]byte, len(b))
	cipher.NewCTR(c, append(slices.Clone(nonce), 0, 0, 0, 0)).XORKeyStream(out, b)
	return out
}

// sum is HMAC with SHA-256 of all of l.
func (o other) sum(l ...[]byte) []byte {
	h := hmac.New(sha256.New, o.mark)
	for _, b := range l {
		h.Write(b)
	}
	return h.Sum(nil)
}

// seal is the box.
func (o other) seal(t *testing.T, nonce, data, text []byte) []byte {
	t.Helper()
	crypted := o.crypt(t, nonce, text)
	count := binary.BigEndian.AppendUint64(nil, uint64(len(data)))
	return append(crypted, o.sum(nonce, count, data, crypted)...)
}

// box is NewBox of a key that may be.
func box(t *testing.T, key []byte) *seal.Box {
	t.Helper()
	b, e := seal.NewBox(key)
	told(t, "NewBox", e, api.OK)
	if b == nil {
		t.Fatal("no box")
	}
	return b
}

// seals is both ways to seal with key: by the call and by a box.
func seals(t *testing.T, key []byte) map[string]work {
	t.Helper()
	direct := func(nonce, data, text []byte) ([]byte, api.Errno) { return seal.Seal(key, nonce, data, text) }
	return map[string]work{"Seal": direct, "a box's Seal": box(t, key).Seal}
}

// opens is both ways to open with key.
func opens(t *testing.T, key []byte) map[string]work {
	t.Helper()
	direct := func(nonce, data, b []byte) ([]byte, api.Errno) { return seal.Open(key, nonce, data, b) }
	return map[string]work{"Open": direct, "a box's Open": box(t, key).Open}
}

// done fails where not each of all tells wanted, and no error.
func done(t *testing.T, all map[string]work, nonce, data, b, wanted []byte) {
	t.Helper()
	for what, f := range all {
		got, e := f(nonce, data, b)
		told(t, what, e, api.OK)
		want(t, what, got, wanted)
	}
}

// refused fails where not each of all tells that error, and nothing beside it.
func refused(t *testing.T, all map[string]work, nonce, data, b []byte, wanted api.Errno) {
	t.Helper()
	for what, f := range all {
		got, e := f(nonce, data, b)
		told(t, what, e, wanted)
		if len(got) != 0 {
			t.Fatalf("%s: %d bytes beside an error", what, len(got))
		}
	}
}

// sealed is the box of a text that may be.
func sealed(t *testing.T, key, nonce, data, text []byte) []byte {
	t.Helper()
	out, e := seal.Seal(key, nonce, data, text)
	told(t, "Seal", e, api.OK)
	return out
}

// P13.1

// Reckoned by two programs other than this one, of a key and a nonce of noughts.
func TestSealAsWrittenOut(t *testing.T) {
	key, nonce := make([]byte, 32), make([]byte, 12)
	for _, c := range []struct{ data, text, box string }{
		{"", "", "8ed230f2b6cded10065bd5347c9450bd8afbf6ae8090ce4d62372c5359cb582c"},
		{"de", "abc", "60f14b" + "a5766849abe3c1427cfe8e4f3edd18d5dfd1557119d641dd5a50c3247d401377"},
	} {
		wanted, ok := flat.Unhex(c.box)
		if !ok {
			t.Fatal("no hex")
		}
		done(t, seals(t, key), nonce, []byte(c.data), []byte(c.text), wanted)
		done(t, opens(t, key), nonce, []byte(c.data), wanted, []byte(c.text))
	}
}

// All lengths around the ends of blocks, of both.
func TestSealIsTheLibrarys(t *testing.T) {
	for n := range 200 {
		key, nonce := drawn("key", n, 32), drawn("nonce", n, 12)
		o, all := newOther(t, key), seals(t, key)
		for _, m := range []int{0, 1, 8, 63, 64, 199 - n} {
			done(t, all, nonce, text(m, 3), text(n, 7), o.seal(t, nonce, text(m, 3), text(n, 7)))
		}
	}
	for _, edge := range []byte{0, 255} {
		key, nonce := bytes.Repeat([]byte{edge}, 32), bytes.Repeat([]byte{edge}, 12)
		done(t, seals(t, key), nonce, text(5, 3), text(100, 7), newOther(t, key).seal(t, nonce, text(5, 3), text(100, 7)))
	}
}

func TestSealHangsOnAllOfIt(t *testing.T) {
	key, nonce, data, b := drawn("key", 0, 32), drawn("nonce", 0, 12), text(20, 3), text(40, 7)
	whole := sealed(t, key, nonce, data, b)
	differs := func(what string, box []byte) {
		t.Helper()
		if bytes.Equal(whole, box) || bytes.Equal(whole[len(whole)-markSize:], box[len(box)-markSize:]) {
			t.Errorf("%s is nothing to Seal", what)
		}
	}
	for i := range key {
		differs("a byte of the key", sealed(t, turned(key, 8*i), nonce, data, b))
	}
	for i := range nonce {
		differs("a byte of the nonce", sealed(t, key, turned(nonce, 8*i), data, b))
	}
	for i := range data {
		differs("a byte of the data", sealed(t, key, nonce, turned(data, 8*i), b))
	}
	for i := range b {
		differs("a byte of the text", sealed(t, key, nonce, data, turned(b, 8*i)))
	}
}

func TestBoxOfTheLongest(t *testing.T) {
	key, nonce := drawn("key", 1, 32), drawn("nonce", 1, 12)
	o := newOther(t, key)
	for _, n := range []int{most - 1, most} {
		for _, m := range []int{0, most - 1, most} {
			b := o.seal(t, nonce, text(m, 3), text(n, 7))
			done(t, seals(t, key), nonce, text(m, 3), text(n, 7), b)
			done(t, opens(t, key), nonce, text(m, 3), b, text(n, 7))
		}
	}
}

func TestTooBig(t *testing.T) {
	key, nonce := drawn("key", 2, 32), drawn("nonce", 2, 12)
	for _, more := range []int{1, markSize, markSize + 1, most} {
		big := make([]byte, most+more)
		for _, b := range [][]byte{nil, text(10, 7), big} {
			refused(t, seals(t, key), nonce, big, b, api.ErrBig)
			refused(t, opens(t, key), nonce, big, b, api.ErrBig)
		}
		refused(t, seals(t, key), nonce, nil, big, api.ErrBig)
		refused(t, seals(t, key), nonce, big[:most], big, api.ErrBig)
	}
	for _, n := range []int{most + markSize + 1, most + markSize + 2, 2 * most} {
		refused(t, opens(t, key), nonce, nil, make([]byte, n), api.ErrBig)
	}
	// A right mark makes no box of too many bytes a good one.
	o, b := newOther(t, key), text(most+1, 7)
	refused(t, opens(t, key), nonce, nil, o.seal(t, nonce, nil, b), api.ErrBig)
	refused(t, opens(t, key), nonce, b, o.seal(t, nonce, b, nil), api.ErrBig)
	// One that is as long as a box may be is bad, and not too big.
	refused(t, opens(t, key), nonce, nil, make([]byte, most+markSize), api.ErrBad)
}

// The empty text has the shortest box: what is shorter is not too big, but bad.
func TestBoxesThatAreTooShort(t *testing.T) {
	key, nonce := drawn("key", 3, 32), drawn("nonce", 3, 12)
	b := sealed(t, key, nonce, nil, nil)
	if len(b) != markSize {
		t.Fatalf("a box of the empty text: %d bytes", len(b))
	}
	refused(t, opens(t, key), nonce, nil, nil, api.ErrBad)
	for n := range b {
		refused(t, opens(t, key), nonce, nil, b[:n], api.ErrBad)
		refused(t, opens(t, key), nonce, nil, b[n+1:], api.ErrBad)
		refused(t, opens(t, key), nonce, nil, make([]byte, n), api.ErrBad)
	}
	done(t, opens(t, key), nonce, nil, b, nil)
}

// lengths is those around the right one, and others.
func lengths(right int) []int {
	return []int{0, 1, right / 2, right - 1, right + 1, right + 4, 2 * right, 65 * right}
}

// ofLength is b cut, or with noughts behind it.
func ofLength(b []byte, n int) []byte {
	return append(slices.Clone(b), make([]byte, n)...)[:n]
}

func TestWrongKeysAndNonces(t *testing.T) {
	key, nonce, data := drawn("key", 4, 32), drawn("nonce", 4, 12), text(5, 3)
	b := sealed(t, key, nonce, data, text(9, 7))
	big := make([]byte, 2*most)
	for _, n := range lengths(12) {
		// What may not be is told ahead of what is too much or bad.
		for _, x := range [][]byte{nil, b, big} {
			refused(t, seals(t, key), ofLength(nonce, n), data, x, api.ErrArg)
			refused(t, opens(t, key), ofLength(nonce, n), data, x, api.ErrArg)
			refused(t, opens(t, key), ofLength(nonce, n), big, x, api.ErrArg)
		}
	}
	for _, n := range lengths(32) {
		wrong := ofLength(key, n)
		all := map[string]work{
			"Seal": func(nonce, data, text []byte) ([]byte, api.Errno) { return seal.Seal(wrong, nonce, data, text) },
			"Open": func(nonce, data, box []byte) ([]byte, api.Errno) { return seal.Open(wrong, nonce, data, box) },
		}
		for _, x := range [][]byte{nil, b, big} {
			refused(t, all, nonce, data, x, api.ErrArg)
			refused(t, all, nonce, big, x, api.ErrArg)
			refused(t, all, nil, data, x, api.ErrArg)
		}
	}
}

// turned is b with that bit turned over.
func turned(b []byte, bit int) []byte {
	out := slices.Clone(b)
	out[bit/8] ^= 1 << (bit % 8)
	return out
}

func TestEveryTurnedBitIsBad(t *testing.T) {
	key, nonce, data := drawn("key", 5, 32), drawn("nonce", 5, 12), text(4, 3)
	b := sealed(t, key, nonce, data, text(10, 7))
	for bit := range 8 * len(b) {
		refused(t, opens(t, key), nonce, data, turned(b, bit), api.ErrBad)
	}
	for bit := range 8 * len(nonce) {
		refused(t, opens(t, key), turned(nonce, bit), data, b, api.ErrBad)
	}
	for bit := range 8 * len(data) {
		refused(t, opens(t, key), nonce, turned(data, bit), b, api.ErrBad)
	}
	for bit := range 8 * len(key) {
		refused(t, opens(t, turned(key, bit)), nonce, data, b, api.ErrBad)
	}
	done(t, opens(t, key), nonce, data, b, text(10, 7))
}

func TestCutAndLengthenedIsBad(t *testing.T) {
	key, nonce, data := drawn("key", 6, 32), drawn("nonce", 6, 12), text(8, 3)
	b := sealed(t, key, nonce, data, text(40, 7))
	for n := range b {
		refused(t, opens(t, key), nonce, data, b[:n], api.ErrBad)
		refused(t, opens(t, key), nonce, data, b[n+1:], api.ErrBad)
		refused(t, opens(t, key), nonce, data, slices.Delete(slices.Clone(b), n, n+1), api.ErrBad)
		refused(t, opens(t, key), nonce, data, slices.Insert(slices.Clone(b), n, 0), api.ErrBad)
	}
	refused(t, opens(t, key), nonce, data, append(slices.Clone(b), 0), api.ErrBad)
	refused(t, opens(t, key), nonce, data, flat.Cat(b, b), api.ErrBad)
	for n := range data {
		refused(t, opens(t, key), nonce, data[:n], b, api.ErrBad)
		refused(t, opens(t, key), nonce, data[n+1:], b, api.ErrBad)
	}
	refused(t, opens(t, key), nonce, append(slices.Clone(data), 0), b, api.ErrBad)
}

// Bytes may not pass from data to the text or back, with the count of data among them or without.
func TestDataAndTextDoNotFlowTogether(t *testing.T) {
	key, nonce, data := drawn("key", 7, 32), drawn("nonce", 7, 12), text(20, 3)
	b := sealed(t, key, nonce, data, text(20, 7))
	all := flat.Cat(data, b)
	for n := range len(all) - markSize + 1 {
		if n == len(data) {
			continue
		}
		refused(t, opens(t, key), nonce, all[:n], all[n:], api.ErrBad)
	}
	counted := flat.Cat(flat.Put64(uint64(len(data))), data)
	refused(t, opens(t, key), nonce, nil, flat.Cat(counted, b), api.ErrBad)
	refused(t, opens(t, key), nonce, counted, b, api.ErrBad)
}

// Marks that leave out, add or turn about what the mark is of, each over the right key.
func TestOtherMarksAreBad(t *testing.T) {
	key, nonce, data := drawn("key", 8, 32), drawn("nonce", 8, 12), text(9, 3)
	o := newOther(t, key)
	plain := text(30, 7)
	crypted := o.crypt(t, nonce, plain)
	count, bytesOfText := flat.Put64(uint64(len(data))), flat.Put64(uint64(len(crypted)))
	for what, mark := range map[string][]byte{
		"no nonce":              o.sum(count, data, crypted),
		"no count":              o.sum(nonce, data, crypted),
		"no data":               o.sum(nonce, count, crypted),
		"no text":               o.sum(nonce, count, data),
		"a count of the text":   o.sum(nonce, bytesOfText, data, crypted),
		"both counts":           o.sum(nonce, count, bytesOfText, data, crypted),
		"the least first":       o.sum(nonce, flat.Little64(uint64(len(data))), data, crypted),
		"a count of four bytes": o.sum(nonce, flat.Put32(uint32(len(data))), data, crypted),
		"the text plain":        o.sum(nonce, count, data, plain),
		"the text ahead":        o.sum(nonce, count, crypted, data),
		"the AES key":           other{mark: o.key}.sum(nonce, count, data, crypted),
		"the key itself":        other{mark: key}.sum(nonce, count, data, crypted),
		"noughts":               make([]byte, markSize),
	} {
		for name, f := range opens(t, key) {
			if got, e := f(nonce, data, flat.Cat(crypted, mark)); e != api.ErrBad || len(got) != 0 {
				t.Errorf("%s of a mark of %s: %d bytes, %d", name, what, len(got), e)
			}
		}
	}
	right := o.sum(nonce, count, data, crypted)
	refused(t, opens(t, key), nonce, data, flat.Cat(right, crypted), api.ErrBad)
	refused(t, opens(t, key), nonce, data, flat.Cat(plain, right), api.ErrBad)
	done(t, opens(t, key), nonce, data, flat.Cat(crypted, right), plain)
}

// P13.2

func TestNewBoxRefuses(t *testing.T) {
	key := drawn("key", 9, 32)
	for _, n := range lengths(32) {
		b, e := seal.NewBox(ofLength(key, n))
		told(t, "NewBox", e, api.ErrArg)
		if b != nil {
			t.Error("a box beside an error")
		}
	}
	b, e := seal.NewBox(nil)
	told(t, "NewBox of nil", e, api.ErrArg)
	if b != nil {
		t.Error("a box of nil")
	}
}

func TestBoxIsForMany(t *testing.T) {
	key := drawn("key", 10, 32)
	b, o := box(t, key), newOther(t, key)
	for n := range 100 {
		nonce, data, plain := drawn("nonce", n, 12), text(100-n, 3), text(3*n, 7)
		got, e := b.Seal(nonce, data, plain)
		told(t, "Seal", e, api.OK)
		want(t, "Seal", got, o.seal(t, nonce, data, plain))
		// What is refused in between changes nothing.
		_, e = b.Open(nonce, data, turned(got, n))
		told(t, "Open of a turned bit", e, api.ErrBad)
		_, e = b.Seal(nil, data, plain)
		told(t, "Seal of no nonce", e, api.ErrArg)
		_, e = b.Seal(nonce, data, make([]byte, most+1))
		told(t, "Seal of too much", e, api.ErrBig)
		back, e := b.Open(nonce, data, got)
		told(t, "Open", e, api.OK)
		want(t, "Open", back, plain)
	}
}

func TestBoxesHaveNothingInCommon(t *testing.T) {
	one, two := drawn("key", 11, 32), drawn("key", 12, 32)
	nonce, plain := drawn("nonce", 11, 12), text(20, 7)
	a, b := box(t, one), box(t, two)
	copied := *a
	*a = *box(t, drawn("key", 13, 32))
	for _, c := range []struct {
		what string
		box  *seal.Box
		key  []byte
	}{{"the second", b, two}, {"a copy of the first", &copied, one}, {"what stands in its place", a, drawn("key", 13, 32)}} {
		got, e := c.box.Seal(nonce, nil, plain)
		told(t, c.what, e, api.OK)
		want(t, c.what, got, newOther(t, c.key).seal(t, nonce, nil, plain))
	}
	_, e := b.Open(nonce, nil, newOther(t, one).seal(t, nonce, nil, plain))
	told(t, "Open of another one's box", e, api.ErrBad)
}

// Method values hold the box that they were taken of.
func TestSealAndOpenAreHandedOn(t *testing.T) {
	key, nonce, data := drawn("key", 14, 32), drawn("nonce", 14, 12), text(3, 3)
	b, o := box(t, key), newOther(t, key)
	lay, lift := b.Seal, b.Open
	b = box(t, drawn("key", 15, 32))
	bind := func(f work) func([]byte) []byte {
		return func(x []byte) []byte {
			out, e := f(nonce, data, x)
			told(t, "the method value", e, api.OK)
			return out
		}
	}
	row := [][]byte{text(5, 7), nil, text(70, 7)}
	boxes := flat.Each(row, bind(lay))
	for i, x := range row {
		want(t, "Seal of a row", boxes[i], o.seal(t, nonce, data, x))
	}
	for i, x := range flat.Each(boxes, bind(lift)) {
		want(t, "Open of a row", x, row[i])
	}
	_, e := b.Open(nonce, data, boxes[0])
	told(t, "the box that stands there now", e, api.ErrBad)
}

// methods is both of a box, as method values.
func methods(b *seal.Box) map[string]work { return map[string]work{"Seal": b.Seal, "Open": b.Open} }

// Of a Box that NewBox did not make the chapter says nothing: it may not panic, nor seal without a key.
func TestBoxesWithoutAKey(t *testing.T) {
	nonce := drawn("nonce", 16, 12)
	big := make([]byte, 2*most)
	for _, b := range []*seal.Box{nil, {}, new(seal.Box)} {
		for _, x := range [][]byte{nil, text(40, 7), big} {
			refused(t, methods(b), nonce, nil, x, api.ErrArg)
			refused(t, methods(b), nil, nil, x, api.ErrArg)
			refused(t, methods(b), nonce, big, x, api.ErrArg)
		}
	}
	failed, _ := seal.NewBox(nil)
	refused(t, methods(failed), nonce, nil, text(40, 7), api.ErrArg)
}

// P13.3

func TestOpenOfSealIsTheText(t *testing.T) {
	for n := range 300 {
		key, nonce, data, plain := drawn("key", n, 32), drawn("nonce", n, 12), text(n/3, 3), text(n, 7)
		for _, f := range seals(t, key) {
			b, e := f(nonce, data, plain)
			told(t, "Seal", e, api.OK)
			if len(b) != n+markSize {
				t.Fatalf("a box of %d bytes of a text of %d", len(b), n)
			}
			done(t, opens(t, key), nonce, data, b, plain)
		}
	}
}

// roomy is b with spare room behind it that a careless append would write to.
func roomy(b []byte) []byte {
	return append(slices.Clone(b), 201, 202, 203, 204, 205, 206, 207, 208)[: len(b) : len(b)+8]
}

// whole is b with its spare room.
func whole(b []byte) []byte { return b[:cap(b)] }

// fill overwrites b and its spare room.
func fill(b []byte) {
	for i := range whole(b) {
		whole(b)[i] = 99
	}
}

// handed fails where f changed one of its arguments, or where what it answered shares memory with one of them or with another answer.
func handed(t *testing.T, what string, f work, nonce, data, b []byte) {
	t.Helper()
	l := [][]byte{nonce, data, b}
	given := [][]byte{roomy(nonce), roomy(data), roomy(b)}
	before, e := f(nonce, data, b)
	told(t, what, e, api.OK)
	wanted := slices.Clone(before)
	got, e := f(given[0], given[1], given[2])
	told(t, what+" of roomy lists", e, api.OK)
	for i := range l {
		want(t, what+": what was handed in", whole(given[i]), whole(roomy(l[i])))
		fill(given[i])
	}
	want(t, what+": the answer", got, wanted)
	fill(got)
	want(t, what+": the answer before", before, wanted)
	again, e := f(nonce, data, b)
	told(t, what+" again", e, api.OK)
	want(t, what+": the answer again", again, wanted)
}

func TestNothingIsChangedOrKept(t *testing.T) {
	key := roomy(drawn("key", 17, 32))
	nonce, data := drawn("nonce", 17, 12), text(7, 3)
	for _, n := range []int{1, 15, 16, 40} {
		b := sealed(t, key, nonce, data, text(n, 7))
		for what, f := range seals(t, key) {
			handed(t, what, f, nonce, data, text(n, 7))
		}
		for what, f := range opens(t, key) {
			handed(t, what, f, nonce, data, b)
			given := [][]byte{roomy(nonce), roomy(data), roomy(turned(b, 9))}
			_, e := f(given[0], given[1], given[2])
			told(t, what+" of a turned bit", e, api.ErrBad)
			for i, x := range [][]byte{nonce, data, turned(b, 9)} {
				want(t, what+": what was handed in", whole(given[i]), whole(roomy(x)))
			}
		}
	}
	want(t, "the key", whole(key), whole(roomy(drawn("key", 17, 32))))
}

func TestBoxKeepsAKeyOfItsOwn(t *testing.T) {
	key := roomy(drawn("key", 18, 32))
	nonce, plain := drawn("nonce", 18, 12), text(20, 7)
	b, o := box(t, key), newOther(t, key)
	fill(key)
	got, e := b.Seal(nonce, nil, plain)
	told(t, "Seal", e, api.OK)
	want(t, "Seal", got, o.seal(t, nonce, nil, plain))
	back, e := b.Open(nonce, nil, got)
	told(t, "Open", e, api.OK)
	want(t, "Open", back, plain)
}

// Arguments may be one memory.
func TestOneListAsAllArguments(t *testing.T) {
	key := drawn("key", 19, 32)
	before := slices.Clone(key)
	b := sealed(t, key, key[4:16], key, key)
	want(t, "Seal", b, newOther(t, before).seal(t, before[4:16], before, before))
	back, e := seal.Open(key, key[4:16], key, b)
	told(t, "Open", e, api.OK)
	want(t, "Open", back, before)
	want(t, "the key", key, before)
}
