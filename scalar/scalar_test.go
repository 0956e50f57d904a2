package scalar_test

import (
	"bytes"
	"math"
	"math/big"
	"slices"
	"testing"

	"missive/api"
	"missive/flat"
	"missive/scalar"
	"missive/sha2"
)

// order is L, by another program than this one.
var order = new(big.Int).Add(new(big.Int).Lsh(big.NewInt(1), 252), decimal("27742317777372353535851937790883648493"))

// decimal is the number that s writes.
func decimal(s string) *big.Int {
	n, _ := new(big.Int).SetString(s, 10)
	return n
}

// form is the size bytes of n, the least first.
func form(n *big.Int, size int) []byte {
	out := n.FillBytes(make([]byte, size))
	slices.Reverse(out)
	return out
}

// number is the number of b, the least first.
func number(b []byte) *big.Int {
	turned := slices.Clone(b)
	slices.Reverse(turned)
	return new(big.Int).SetBytes(turned)
}

// mod is n mod L.
func mod(n *big.Int) *big.Int { return new(big.Int).Mod(n, order) }

// near is 2^k and d.
func near(k uint, d int64) *big.Int {
	return new(big.Int).Add(new(big.Int).Lsh(big.NewInt(1), k), big.NewInt(d))
}

// times is k times L, and d.
func times(k *big.Int, d int64) *big.Int {
	out := new(big.Int).Mul(k, order)
	return out.Add(out, big.NewInt(d))
}

// drawn is 64 bytes that look like chance, others for each k.
func drawn(k int) []byte { return sha2.Sum512(flat.Put32(uint32(k)), []byte("scalar")) }

// numbers are some from 0 to L - 1: those at the edges of words and of the whole, and many between.
func numbers() []*big.Int {
	var out []*big.Int
	add := func(n *big.Int) {
		if n.Sign() >= 0 && n.Cmp(order) < 0 {
			out = append(out, n)
		}
	}
	for d := range int64(10) {
		add(big.NewInt(d))
		add(times(big.NewInt(1), -1-d))
	}
	for _, k := range []uint{32, 63, 64, 124, 125, 127, 128, 191, 192, 251, 252} {
		for _, d := range []int64{-2, -1, 0, 1, 2} {
			add(near(k, d))
			add(new(big.Int).Sub(order, near(k, d)))
		}
	}
	for d := range int64(3) {
		add(new(big.Int).Rsh(times(big.NewInt(1), 1-d), 1)) // around L / 2: twice it is around L
	}
	for k := range 40 {
		add(mod(number(drawn(k))))
	}
	return out
}

// wides are some of 512 bits at most: at the edges of words, at multiples of L, and many between.
func wides() []*big.Int {
	out := numbers()
	add := func(n *big.Int) {
		if n.Sign() >= 0 && n.BitLen() <= 512 {
			out = append(out, n)
		}
	}
	for k := uint(250); k <= 512; k++ {
		for _, d := range []int64{-1, 0, 1} {
			add(near(k, d))
		}
	}
	greatest := new(big.Int).Div(near(512, -1), order)
	counts := []*big.Int{big.NewInt(1), big.NewInt(2), big.NewInt(15), big.NewInt(16), greatest}
	for k := uint(3); k <= 260; k++ {
		counts = append(counts, near(k, -1), near(k, 0), near(k, 1))
	}
	for _, k := range counts {
		for _, d := range []int64{-2, -1, 0, 1, 2} {
			add(times(k, d))
		}
	}
	for k := range 500 {
		add(number(drawn(k)))
	}
	return out
}

// of is n mod L.
func of(n *big.Int) scalar.S { return scalar.Wide(form(mod(n), 64)) }

// want fails where got is another number than wanted mod L, or not in its one form.
func want(t *testing.T, what string, got scalar.S, wanted *big.Int) {
	t.Helper()
	if b := form(mod(wanted), 32); !bytes.Equal(got.Bytes(), b) {
		t.Fatalf("%s:\n got %s\nwant %s", what, flat.Hex(got.Bytes()), flat.Hex(b))
	}
}

// refused fails where Strict takes b, or tells a number beside its error.
func refused(t *testing.T, what string, b []byte) {
	t.Helper()
	if a, e := scalar.Strict(b); e != api.ErrBad || a != (scalar.S{}) {
		t.Errorf("Strict of %s, %s: %d, %s", what, flat.Hex(b), e, flat.Hex(a.Bytes()))
	}
}

// roomy is b with spare room behind it that a careless append would write to.
func roomy(b ...byte) []byte {
	return append(slices.Clone(b), 201, 202, 203, 204, 205, 206, 207, 208)[: len(b) : len(b)+8]
}

// whole is b with its spare room.
func whole(b []byte) []byte { return b[:cap(b)] }

// fill overwrites b and its spare room.
func fill(b []byte) {
	for i := range whole(b) {
		whole(b)[i] = 99
	}
}

// P7.1

func TestWide(t *testing.T) {
	for _, n := range wides() {
		want(t, "Wide of "+n.String(), scalar.Wide(form(n, 64)), n)
		want(t, "Wide of a longer one", scalar.Wide(append(form(n, 64), 1, 255)), n)
	}
	for k := range 20 {
		b := drawn(k)
		for n := range 65 {
			// What lies behind the piece, in its spare room, is no part of it.
			want(t, "Wide of a shorter one", scalar.Wide(b[:n]), number(b[:n]))
		}
	}
	want(t, "Wide of nil", scalar.Wide(nil), new(big.Int))
	want(t, "Wide of no bytes", scalar.Wide([]byte{}), new(big.Int))
	want(t, "Wide of the greatest", scalar.Wide(bytes.Repeat([]byte{255}, 64)), near(512, -1))
	want(t, "Wide of more than 64", scalar.Wide(bytes.Repeat([]byte{255}, 200)), near(512, -1))
	if !scalar.Wide(form(order, 32)).Same(scalar.S{}) {
		t.Error("the chapter's example: Wide of L's bytes is not 0")
	}
}

func TestStrict(t *testing.T) {
	for _, n := range numbers() {
		a, e := scalar.Strict(form(n, 32))
		if e != api.OK {
			t.Fatalf("Strict of %s: %d", n, e)
		}
		want(t, "Strict", a, n)
		refused(t, "33 bytes", form(n, 33))
		refused(t, "64 bytes", form(n, 64))
		refused(t, "31 bytes", form(n, 32)[:31])
		for bit := uint(253); bit < 256; bit++ {
			refused(t, "a higher bit", form(new(big.Int).Add(n, near(bit, 0)), 32))
		}
	}
	for _, n := range []int{0, 1, 16, 30, 31, 33, 34, 63, 64, 65, 96} {
		refused(t, "another length", make([]byte, n))
		refused(t, "another length", bytes.Repeat([]byte{1}, n))
	}
	refused(t, "nil", nil)
}

// What has 32 bytes and is a number below L as well, but L times k more.
func TestStrictOfMore(t *testing.T) {
	for d := range int64(200) {
		for k := range int64(15) {
			refused(t, "L and more", form(times(big.NewInt(1+k), d), 32))
		}
		refused(t, "more than 2^255", form(near(255, d), 32))
		refused(t, "near 2^256", form(near(256, -1-d), 32))
	}
	for _, k := range []uint{60, 64, 100, 124, 128, 192, 250, 251} {
		refused(t, "L and a power of 2", form(new(big.Int).Add(order, near(k, 0)), 32))
		less := new(big.Int).Sub(order, near(k, 0))
		if a, e := scalar.Strict(form(less, 32)); e != api.OK || !bytes.Equal(a.Bytes(), form(less, 32)) {
			t.Errorf("Strict of %s: %d, %s", less, e, flat.Hex(a.Bytes()))
		}
	}
}

func TestBytes(t *testing.T) {
	for _, n := range numbers() {
		if b := of(n).Bytes(); !bytes.Equal(b, form(n, 32)) {
			t.Errorf("Bytes of %s: %s", n, flat.Hex(b))
		}
	}
	if b := (scalar.S{}).Bytes(); !bytes.Equal(b, make([]byte, 32)) {
		t.Errorf("Bytes of a zero S: %s", flat.Hex(b))
	}
}

// P7.2

func TestOfTwo(t *testing.T) {
	for _, x := range numbers() {
		a := of(x)
		for _, y := range numbers() {
			b := of(y)
			want(t, "Add", a.Add(b), new(big.Int).Add(x, y))
			want(t, "Mul", a.Mul(b), new(big.Int).Mul(x, y))
			if a.Same(b) != (x.Cmp(y) == 0) {
				t.Fatalf("Same of %s and %s: %t", x, y, a.Same(b))
			}
		}
	}
}

func TestNeg(t *testing.T) {
	for _, x := range numbers() {
		want(t, "Neg", of(x).Neg(), new(big.Int).Neg(x))
	}
	want(t, "Neg of 0", scalar.S{}.Neg(), new(big.Int))
	if scalar.Wide(form(order, 32)).Neg() != (scalar.S{}) {
		t.Error("Neg of L is not 0")
	}
}

// What comes out of one call goes into the next: no form but the one may stand inside.
func TestOnAndOn(t *testing.T) {
	a, b := of(big.NewInt(-1)), of(near(251, -1))
	x, y := mod(big.NewInt(-1)), near(251, -1)
	for range 3000 {
		a, b = a.Mul(b).Add(b), b.Add(a).Neg()
		x, y = mod(new(big.Int).Add(new(big.Int).Mul(x, y), y)), mod(new(big.Int).Neg(new(big.Int).Add(y, x)))
		want(t, "the first", a, x)
		want(t, "the second", b, y)
	}
}

func TestSameIsOfNumbers(t *testing.T) {
	for _, x := range numbers() {
		a := of(x)
		more := scalar.Wide(form(new(big.Int).Add(x, times(near(200, 7), 0)), 64))
		for _, b := range []scalar.S{a.Neg().Neg(), a.Add(scalar.S{}), a.Mul(of(big.NewInt(1))), more, a.Add(of(near(200, 3))).Add(of(near(200, 3)).Neg())} {
			if !a.Same(b) || !b.Same(a) || a != b {
				t.Errorf("not the same: %s", x)
			}
		}
		if a.Same(a.Add(of(big.NewInt(1)))) || a.Same(a.Neg()) != (x.Sign() == 0) {
			t.Errorf("the same as another: %s", x)
		}
		for k := uint(0); k < 252; k++ {
			if a.Same(of(new(big.Int).Add(x, near(k, 0)))) {
				t.Errorf("%s is the same as 2^%d more", x, k)
			}
		}
	}
}

func TestBit(t *testing.T) {
	for _, x := range numbers() {
		a := of(x)
		for k := range 256 {
			if got := a.Bit(k); got != int(x.Bit(k)) {
				t.Fatalf("Bit(%d) of %s: %d", k, x, got)
			}
		}
		for _, k := range []int{-1, -2, -63, -64, -256, math.MinInt, 256, 257, 319, 320, 512, math.MaxInt} {
			if got := a.Bit(k); got != 0 {
				t.Errorf("Bit(%d) of %s: %d", k, x, got)
			}
		}
	}
}

// climb is s times one, by a ladder that takes the digits from where it is told.
func climb(digit func(scalar.S, int) int, s, one scalar.S) scalar.S {
	low, high := scalar.S{}, one
	for k := 255; k >= 0; k-- {
		both := low.Add(high)
		if digit(s, k) == 1 {
			low, high = both, high.Add(high)
		} else {
			low, high = low.Add(low), both
		}
	}
	return low
}

// That S.Bit may be handed on.
func TestBitAsAFunction(t *testing.T) {
	for _, x := range numbers() {
		y := mod(number(drawn(7)))
		want(t, "the ladder", climb(scalar.S.Bit, of(x), of(y)), new(big.Int).Mul(x, y))
	}
	a := of(big.NewInt(4))
	digit := a.Bit
	a = scalar.S{}
	if digit(2) != 1 || digit(1) != 0 {
		t.Errorf("the method value: %d, %d", digit(2), digit(1))
	}
}

// P7.3

func TestStrictOfBytes(t *testing.T) {
	for _, n := range wides() {
		a := scalar.Wide(form(n, 64))
		b := a.Bytes()
		same, e := scalar.Strict(b)
		if e != api.OK || !same.Same(a) {
			t.Fatalf("Strict of Bytes of %s: %d", n, e)
		}
		if !scalar.Wide(b).Same(same) {
			t.Fatalf("Wide of what Strict takes, of %s", n)
		}
	}
}

func TestRing(t *testing.T) {
	l := numbers()
	one := of(big.NewInt(1))
	for i, x := range l {
		a, b, c := of(x), of(l[(i*7+3)%len(l)]), of(l[(i*11+5)%len(l)])
		for what, pair := range map[string][2]scalar.S{
			"Mul over Add": {a.Mul(b.Add(c)), a.Mul(b).Add(a.Mul(c))},
			"Add turned":   {a.Add(b), b.Add(a)},
			"Mul turned":   {a.Mul(b), b.Mul(a)},
			"Add in a row": {a.Add(b).Add(c), a.Add(b.Add(c))},
			"Mul in a row": {a.Mul(b).Mul(c), a.Mul(b.Mul(c))},
			"Add of 0":     {a.Add(scalar.S{}), a},
			"Mul of 1":     {a.Mul(one), a},
			"Mul of 0":     {a.Mul(scalar.S{}), scalar.S{}},
			"Mul of -1":    {a.Mul(one.Neg()), a.Neg()},
			"Add of Neg":   {a.Add(a.Neg()), scalar.S{}},
			"Mul of Neg":   {a.Mul(b.Neg()), a.Mul(b).Neg()},
		} {
			if !pair[0].Same(pair[1]) {
				t.Errorf("%s, of %s", what, x)
			}
		}
	}
}

func TestNothingIsChangedOrKept(t *testing.T) {
	for _, n := range []int{0, 5, 31, 32, 33, 40, 63, 64, 65, 80} {
		plain := bytes.Repeat([]byte{7}, n)
		b := roomy(plain...)
		a := scalar.Wide(b)
		strict, _ := scalar.Strict(b)
		if !bytes.Equal(whole(b), whole(roomy(plain...))) {
			t.Fatalf("what was handed in was changed: %v", whole(b))
		}
		before, beside := a.Bytes(), strict.Bytes()
		fill(b)
		if !bytes.Equal(a.Bytes(), before) || !bytes.Equal(strict.Bytes(), beside) {
			t.Errorf("what was handed in was kept, of %d bytes", n)
		}
	}
	x, y := near(250, 9), near(251, 7)
	a, b := of(x), of(y)
	a.Add(b)
	a.Mul(b)
	a.Mul(a)
	a.Neg()
	want(t, "the first", a, x)
	want(t, "the second", b, y)
}

func TestAnswersAreNewMemory(t *testing.T) {
	a := of(near(250, 9))
	one, two := a.Bytes(), a.Bytes()
	fill(one)
	if !bytes.Equal(two, form(near(250, 9), 32)) || !bytes.Equal(a.Bytes(), two) {
		t.Errorf("behind a change of the first: %s", flat.Hex(two))
	}
}
