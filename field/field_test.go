package field_test

import (
	"bytes"
	"math/big"
	"slices"
	"testing"

	"missive/api"
	"missive/field"
	"missive/flat"
	"missive/sha2"
)

// prime is p, by another program than this one.
var prime = new(big.Int).Sub(new(big.Int).Lsh(big.NewInt(1), 255), big.NewInt(19))

// form is the size bytes of n, the least first.
func form(n *big.Int, size int) []byte {
	out := n.FillBytes(make([]byte, size))
	slices.Reverse(out)
	return out
}

// number is the number of b, the least first.
func number(b []byte) *big.Int {
	turned := slices.Clone(b)
	slices.Reverse(turned)
	return new(big.Int).SetBytes(turned)
}

// mod is n mod p.
func mod(n *big.Int) *big.Int { return new(big.Int).Mod(n, prime) }

// near is 2^k and d.
func near(k uint, d int64) *big.Int {
	return new(big.Int).Add(new(big.Int).Lsh(big.NewInt(1), k), big.NewInt(d))
}

// drawn is 32 bytes that look like chance, others for each k.
func drawn(k int) []byte { return sha2.Sum256(flat.Put32(uint32(k)), []byte("field")) }

// numbers are some from 0 to p - 1: those at the edges of words and of the whole, and many between.
func numbers() []*big.Int {
	var out []*big.Int
	add := func(n *big.Int) {
		if n.Sign() >= 0 && n.Cmp(prime) < 0 {
			out = append(out, n)
		}
	}
	for d := range int64(20) {
		add(big.NewInt(d))
		add(new(big.Int).Sub(prime, big.NewInt(1+d)))
	}
	for _, k := range []uint{32, 63, 64, 127, 128, 191, 192, 253, 254} {
		for _, d := range []int64{-20, -19, -2, -1, 0, 1, 19, 20} {
			add(near(k, d))
			add(new(big.Int).Sub(prime, near(k, d)))
		}
	}
	for k := range 40 {
		add(mod(number(drawn(k))))
	}
	return out
}

// of is n mod p.
func of(n *big.Int) field.E { return field.Of(form(mod(n), 32)) }

// want fails where got is another number than wanted mod p, or not in its one form.
func want(t *testing.T, what string, got field.E, wanted *big.Int) {
	t.Helper()
	if b := form(mod(wanted), 32); !bytes.Equal(got.Bytes(), b) {
		t.Fatalf("%s:\n got %s\nwant %s", what, flat.Hex(got.Bytes()), flat.Hex(b))
	}
}

// refused fails where Strict takes b, or tells a number beside its error.
func refused(t *testing.T, what string, b []byte) {
	t.Helper()
	if a, e := field.Strict(b); e != api.ErrBad || a != (field.E{}) {
		t.Errorf("%s: %d, %s", what, e, flat.Hex(a.Bytes()))
	}
}

// roomy is b with spare room behind it that a careless append would write to.
func roomy(b ...byte) []byte {
	return append(slices.Clone(b), 201, 202, 203, 204, 205, 206, 207, 208)[: len(b) : len(b)+8]
}

// whole is b with its spare room.
func whole(b []byte) []byte { return b[:cap(b)] }

// fill overwrites b and its spare room.
func fill(b []byte) {
	for i := range whole(b) {
		whole(b)[i] = 99
	}
}

// P5.1

func TestOf(t *testing.T) {
	for _, n := range numbers() {
		want(t, "Of", field.Of(form(n, 32)), n)
		want(t, "Of a longer one", field.Of(append(form(n, 32), 1, 255)), n)
	}
	for k := range 100 {
		b := drawn(k)
		low := slices.Clone(b)
		low[31] &= 127
		want(t, "Of what was drawn", field.Of(b), number(low))
		for n := range 33 {
			want(t, "Of a shorter one", field.Of(low[:n]), number(low[:n]))
		}
	}
	want(t, "Of nil", field.Of(nil), new(big.Int))
	want(t, "Of no bytes", field.Of([]byte{}), new(big.Int))
}

// The 19 numbers that have two forms in 255 bits, with and without the highest bit.
func TestOfTwoForms(t *testing.T) {
	for d := range int64(19) {
		b := form(near(255, d-19), 32)
		want(t, "Of p and more", field.Of(b), big.NewInt(d))
		b[31] |= 128
		want(t, "Of p and more, with the highest bit", field.Of(b), big.NewInt(d))
		b = form(big.NewInt(d), 32)
		b[31] |= 128
		want(t, "Of a small one with the highest bit", field.Of(b), big.NewInt(d))
	}
	want(t, "Of all bits", field.Of(bytes.Repeat([]byte{255}, 50)), big.NewInt(18))
}

func TestStrict(t *testing.T) {
	for _, n := range numbers() {
		a, e := field.Strict(form(n, 32))
		if e != api.OK {
			t.Fatalf("Strict of %s: %d", n, e)
		}
		want(t, "Strict", a, n)
		high := form(n, 32)
		high[31] |= 128
		refused(t, "with the highest bit", high)
		refused(t, "of 33 bytes", form(n, 33))
		refused(t, "of 31 bytes", form(n, 32)[:31])
	}
	for d := range int64(19) {
		refused(t, "of p and more", form(near(255, d-19), 32))
		refused(t, "of 2^255 and more", form(near(255, d), 32))
		refused(t, "of 2^255 + p and more", form(near(256, d-19), 32))
	}
	for _, n := range []int{0, 1, 16, 30, 31, 33, 34, 64} {
		refused(t, "of another length", make([]byte, n))
		refused(t, "of another length", bytes.Repeat([]byte{1}, n))
	}
	refused(t, "of nil", nil)
}

func TestSmall(t *testing.T) {
	for _, n := range []uint64{0, 1, 2, 18, 19, 20, 255, 256, 1 << 32, 1<<63 - 1, 1 << 63, 1<<64 - 1} {
		want(t, "Small", field.Small(n), new(big.Int).SetUint64(n))
	}
	if field.Small(0) != (field.E{}) {
		t.Error("Small(0) is no zero E")
	}
}

func TestBytes(t *testing.T) {
	for _, n := range numbers() {
		if b := of(n).Bytes(); !bytes.Equal(b, form(n, 32)) {
			t.Errorf("Bytes of %s: %s", n, flat.Hex(b))
		}
	}
	if b := (field.E{}).Bytes(); !bytes.Equal(b, make([]byte, 32)) {
		t.Errorf("Bytes of a zero E: %s", flat.Hex(b))
	}
}

// P5.2

func TestOfTwo(t *testing.T) {
	for _, x := range numbers() {
		a := of(x)
		for _, y := range numbers() {
			b := of(y)
			want(t, "Add", a.Add(b), new(big.Int).Add(x, y))
			want(t, "Sub", a.Sub(b), new(big.Int).Sub(x, y))
			want(t, "Mul", a.Mul(b), new(big.Int).Mul(x, y))
			if a.Same(b) != (x.Cmp(y) == 0) {
				t.Fatalf("Same of %s and %s: %t", x, y, a.Same(b))
			}
		}
	}
}

func TestOfOne(t *testing.T) {
	for _, x := range numbers() {
		a := of(x)
		want(t, "Neg", a.Neg(), new(big.Int).Neg(x))
		if a.Odd() != (x.Bit(0) == 1) {
			t.Errorf("Odd of %s: %t", x, a.Odd())
		}
		inverse := new(big.Int)
		if x.Sign() != 0 {
			inverse.ModInverse(x, prime)
		}
		want(t, "Inv", a.Inv(), inverse)
	}
	want(t, "Inv of 0", field.E{}.Inv(), new(big.Int))
	want(t, "Inv of Small(0)", field.Small(0).Inv(), new(big.Int))
	want(t, "Neg of 0", field.E{}.Neg(), new(big.Int))
}

// What comes out of one call goes into the next: no form but the one may stand inside.
func TestOnAndOn(t *testing.T) {
	a, b := of(big.NewInt(-1)), of(near(254, -1))
	x, y := mod(big.NewInt(-1)), near(254, -1)
	for range 3000 {
		a, b = a.Mul(b).Sub(b), b.Add(a).Neg()
		x, y = mod(new(big.Int).Sub(new(big.Int).Mul(x, y), y)), mod(new(big.Int).Neg(new(big.Int).Add(y, x)))
		want(t, "the first", a, x)
		want(t, "the second", b, y)
	}
}

func TestSameIsOfNumbers(t *testing.T) {
	for _, x := range numbers() {
		a := of(x)
		for _, b := range []field.E{a.Neg().Neg(), a.Add(field.E{}), a.Sub(field.E{}), a.Mul(field.Small(1)), a.Add(of(near(200, 3))).Sub(of(near(200, 3)))} {
			if !a.Same(b) || !b.Same(a) || a != b {
				t.Errorf("not the same: %s", x)
			}
		}
		if a.Same(a.Add(field.Small(1))) || a.Same(a.Neg()) != (x.Sign() == 0) {
			t.Errorf("the same as another: %s", x)
		}
	}
	if !field.Of(form(prime, 32)).Same(field.E{}) {
		t.Error("p is not 0")
	}
}

func TestRoot(t *testing.T) {
	var found, missing int
	for _, x := range numbers() {
		root, e := of(x).Root()
		other := new(big.Int).ModSqrt(x, prime)
		if other == nil {
			missing++
			if e != api.ErrNone || root != (field.E{}) {
				t.Errorf("Root of %s: %d, %s", x, e, flat.Hex(root.Bytes()))
			}
			continue
		}
		found++
		if other.Bit(0) == 1 {
			other.Sub(prime, other)
		}
		if e != api.OK || root.Odd() {
			t.Errorf("Root of %s: %d, odd %t", x, e, root.Odd())
		}
		want(t, "Root", root, other)
	}
	if found < 50 || missing < 50 {
		t.Errorf("%d with a root, %d without", found, missing)
	}
	if root, e := (field.E{}).Root(); e != api.OK || root != (field.E{}) {
		t.Errorf("Root of 0: %d, %s", e, flat.Hex(root.Bytes()))
	}
	if root, e := field.Small(1).Root(); e != api.OK || !root.Same(field.Small(1).Neg()) {
		t.Errorf("Root of 1: %d, %s", e, flat.Hex(root.Bytes()))
	}
}

func TestPick(t *testing.T) {
	a, b := of(near(200, 1)), of(near(100, 1))
	if field.Pick(true, a, b) != a || field.Pick(false, a, b) != b {
		t.Error("the wrong one")
	}
	if field.Pick(true, field.E{}, b) != (field.E{}) || field.Pick(false, a, field.E{}) != (field.E{}) {
		t.Error("not 0")
	}
}

// P5.3

func TestField(t *testing.T) {
	l := numbers()
	one := field.Small(1)
	for i, x := range l {
		a, b, c := of(x), of(l[(i*7+3)%len(l)]), of(l[(i*11+5)%len(l)])
		for what, pair := range map[string][2]field.E{
			"Mul over Add":  {a.Mul(b.Add(c)), a.Mul(b).Add(a.Mul(c))},
			"Mul over Sub":  {a.Mul(b.Sub(c)), a.Mul(b).Sub(a.Mul(c))},
			"Add turned":    {a.Add(b), b.Add(a)},
			"Mul turned":    {a.Mul(b), b.Mul(a)},
			"Add in a row":  {a.Add(b).Add(c), a.Add(b.Add(c))},
			"Mul in a row":  {a.Mul(b).Mul(c), a.Mul(b.Mul(c))},
			"Add and Sub":   {a.Add(b).Sub(b), a},
			"Add of 0":      {a.Add(field.E{}), a},
			"Mul of 1":      {a.Mul(one), a},
			"Mul of 0":      {a.Mul(field.E{}), field.E{}},
			"Add of Neg":    {a.Add(a.Neg()), field.E{}},
			"Mul of Neg":    {a.Mul(b.Neg()), a.Mul(b).Neg()},
			"Inv of Inv":    {a.Inv().Inv(), a},
			"Inv of both":   {a.Mul(b).Inv(), a.Inv().Mul(b.Inv())},
			"Mul of an Inv": {a.Mul(a.Inv()), field.Pick(x.Sign() == 0, field.E{}, one)},
		} {
			if !pair[0].Same(pair[1]) {
				t.Errorf("%s, of %s", what, x)
			}
		}
		if root, e := a.Mul(a).Root(); e != api.OK || !root.Mul(root).Same(a.Mul(a)) || !root.Same(field.Pick(a.Odd(), a.Neg(), a)) {
			t.Errorf("Root of the square of %s: %d", x, e)
		}
	}
	if !field.Small(2).Inv().Mul(field.Small(2)).Same(one) {
		t.Error("the chapter's example")
	}
}

// That E.Mul may be handed on.
func TestMulAsAFunction(t *testing.T) {
	lay := field.E.Mul
	want(t, "the method expression", lay(field.Small(6), field.Small(7)), big.NewInt(42))
	a := of(near(254, 3))
	times := a.Mul
	a = field.E{}
	want(t, "the method value", times(field.Small(2)), near(255, 6))
}

func TestNothingIsChangedOrKept(t *testing.T) {
	for _, n := range []int{0, 5, 31, 32, 33, 40} {
		plain := bytes.Repeat([]byte{77}, n)
		b := roomy(plain...)
		a := field.Of(b)
		strict, _ := field.Strict(b)
		if !bytes.Equal(whole(b), whole(roomy(plain...))) {
			t.Fatalf("what was handed in was changed: %v", whole(b))
		}
		before, beside := a.Bytes(), strict.Bytes()
		fill(b)
		if !bytes.Equal(a.Bytes(), before) || !bytes.Equal(strict.Bytes(), beside) {
			t.Errorf("what was handed in was kept, of %d bytes", n)
		}
	}
	x := near(250, 9)
	a, b := of(x), of(near(251, 7))
	a.Add(b)
	a.Sub(b)
	a.Mul(b)
	a.Neg()
	a.Inv()
	_, _ = a.Root()
	field.Pick(true, b, a)
	want(t, "the first", a, x)
	want(t, "the second", b, near(251, 7))
}

func TestAnswersAreNewMemory(t *testing.T) {
	a := of(near(250, 9))
	one, two := a.Bytes(), a.Bytes()
	fill(one)
	if !bytes.Equal(two, form(near(250, 9), 32)) || !bytes.Equal(a.Bytes(), two) {
		t.Errorf("behind a change of the first: %s", flat.Hex(two))
	}
}
