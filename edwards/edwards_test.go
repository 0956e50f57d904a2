package edwards_test

import (
	"bytes"
	stdlib "crypto/ed25519"
	"math"
	"math/big"
	"slices"
	"testing"

	"missive/api"
	"missive/edwards"
	"missive/flat"
	"missive/scalar"
	"missive/sha2"
)

// p, L, d and a root of -1, by another program than this one.
var (
	prime = near(255, -19)
	order = new(big.Int).Add(near(252, 0), decimal("27742317777372353535851937790883648493"))
	bend  = mod(new(big.Int).Mul(big.NewInt(-121665), new(big.Int).ModInverse(big.NewInt(121666), prime)))
	turn  = new(big.Int).ModSqrt(big.NewInt(-1), prime)
)

// decimal is the number that s writes.
func decimal(s string) *big.Int {
	n, _ := new(big.Int).SetString(s, 10)
	return n
}

// near is 2^k and d.
func near(k uint, d int64) *big.Int {
	return new(big.Int).Add(new(big.Int).Lsh(big.NewInt(1), k), big.NewInt(d))
}

// mod is n mod p.
func mod(n *big.Int) *big.Int { return new(big.Int).Mod(n, prime) }

// product is all of l, one times the other, mod p.
func product(l ...*big.Int) *big.Int {
	out := big.NewInt(1)
	for _, n := range l {
		out = mod(out.Mul(out, n))
	}
	return out
}

// form is the 32 bytes of n, the least first.
func form(n *big.Int) []byte {
	out := n.FillBytes(make([]byte, 32))
	slices.Reverse(out)
	return out
}

// number is the number of b, the least first.
func number(b []byte) *big.Int {
	turned := slices.Clone(b)
	slices.Reverse(turned)
	return new(big.Int).SetBytes(turned)
}

// drawn is 32 bytes that look like chance, others for each k.
func drawn(k int) []byte { return sha2.Sum256(flat.Put32(uint32(k)), []byte("edwards")) }

// times is s as a scalar.
func times(s *big.Int) scalar.S { return scalar.Wide(form(s)) }

// A plain is a point by the curve's own rule, with both coordinates as they are.
type plain struct{ x, y *big.Int }

// neutral is the point that changes nothing.
func neutral() plain { return plain{new(big.Int), big.NewInt(1)} }

// add is a and b together: the curve's rule with its divisions.
func (a plain) add(b plain) plain {
	bent := product(bend, a.x, b.x, a.y, b.y)
	over := func(n, below *big.Int) *big.Int { return product(n, new(big.Int).ModInverse(mod(below), prime)) }
	cross := new(big.Int).Add(product(a.x, b.y), product(a.y, b.x))
	along := new(big.Int).Add(product(a.y, b.y), product(a.x, b.x))
	one := big.NewInt(1)
	return plain{over(cross, new(big.Int).Add(one, bent)), over(along, new(big.Int).Sub(one, bent))}
}

// mult is s times a.
func (a plain) mult(s *big.Int) plain {
	out := neutral()
	for k := s.BitLen() - 1; k >= 0; k-- {
		out = out.add(out)
		if s.Bit(k) == 1 {
			out = out.add(a)
		}
	}
	return out
}

// neg is what a wants to the neutral point.
func (a plain) neg() plain { return plain{mod(new(big.Int).Neg(a.x)), a.y} }

// encode is RFC 8032's form.
func (a plain) encode() []byte {
	out := form(a.y)
	out[31] |= byte(a.x.Bit(0)) << 7
	return out
}

// same tells whether a and b are one point.
func (a plain) same(b plain) bool { return a.x.Cmp(b.x) == 0 && a.y.Cmp(b.y) == 0 }

// plainDecode is the point whose encode b is, and whether there is one.
func plainDecode(b []byte) (plain, bool) {
	if len(b) != 32 {
		return plain{}, false
	}
	n := number(b)
	odd := n.Bit(255)
	y := n.SetBit(n, 255, 0)
	if y.Cmp(prime) >= 0 {
		return plain{}, false
	}
	square := product(y, y)
	below := mod(new(big.Int).Add(product(bend, square), big.NewInt(1)))
	x := new(big.Int).ModSqrt(product(new(big.Int).Sub(square, big.NewInt(1)), new(big.Int).ModInverse(below, prime)), prime)
	if x == nil {
		return plain{}, false
	}
	if x.Bit(0) != odd {
		x = mod(new(big.Int).Neg(x))
	}
	return plain{x, y}, x.Bit(0) == odd
}

// plainBase is the base point, with RFC 8032's own numbers.
func plainBase() plain {
	return plain{
		decimal("15112221349535400772501151409588531511454012693041857206046113283949847762202"),
		decimal("46316835694926478169428394003475163141307993866256225615783033603165251855960"),
	}
}

// some are n points that look like chance, of which most have a part of small order.
func some(n int) []plain {
	var out []plain
	for k := 0; len(out) < n; k++ {
		if a, ok := plainDecode(drawn(k)); ok {
			out = append(out, a)
		}
	}
	return out
}

// torsion are the eight points of small order, as many times one of them as their place says.
func torsion(t *testing.T) []plain {
	t.Helper()
	for _, a := range some(50) {
		first := a.mult(order)
		if first.mult(big.NewInt(4)).same(neutral()) {
			continue
		}
		out := []plain{neutral()}
		for k := range 7 {
			out = append(out, out[k].add(first))
		}
		return out
	}
	t.Fatal("no point of order 8")
	return nil
}

// points are those of small order, the base and a few times it, and some with a part of both.
func points(t *testing.T) []plain {
	t.Helper()
	out := torsion(t)
	base := plainBase()
	for _, k := range []int64{1, 2, 3, 8} {
		out = append(out, base.mult(big.NewInt(k)))
	}
	out = append(out, base.neg(), base.add(out[1]), base.add(out[4]), base.neg().add(out[6]))
	return append(out, some(6)...)
}

// of is a, by Decode.
func of(t *testing.T, a plain) edwards.P {
	t.Helper()
	out, e := edwards.Decode(a.encode())
	if e != api.OK {
		t.Fatalf("Decode of %s: %d", flat.Hex(a.encode()), e)
	}
	return out
}

// want fails where got is another point than wanted.
func want(t *testing.T, what string, got edwards.P, wanted plain) {
	t.Helper()
	if b := got.Encode(); !bytes.Equal(b, wanted.encode()) {
		t.Fatalf("%s:\n got %s\nwant %s", what, flat.Hex(b), flat.Hex(wanted.encode()))
	}
}

// refused fails where Decode takes b, or tells a point beside its error.
func refused(t *testing.T, what string, b []byte) {
	t.Helper()
	if a, e := edwards.Decode(b); e != api.ErrPoint || a != (edwards.P{}) {
		t.Errorf("%s, Decode of %s: %d, %s", what, flat.Hex(b), e, flat.Hex(a.Encode()))
	}
}

// turned is b with x's bit turned about.
func turned(b []byte) []byte {
	out := slices.Clone(b)
	out[31] ^= 128
	return out
}

// roomy is b with spare room behind it that a careless append would write to.
func roomy(b ...byte) []byte {
	return append(slices.Clone(b), 201, 202, 203, 204, 205, 206, 207, 208)[: len(b) : len(b)+8]
}

// whole is b with its spare room.
func whole(b []byte) []byte { return b[:cap(b)] }

// fill overwrites b and its spare room.
func fill(b []byte) {
	for i := range whole(b) {
		whole(b)[i] = 99
	}
}

// P8.1

func TestBase(t *testing.T) {
	want(t, "Base", edwards.Base(), plainBase())
	if b := edwards.Base().Encode(); b[0] != 0x58 || !bytes.Equal(b[1:], bytes.Repeat([]byte{0x66}, 31)) {
		t.Errorf("the chapter's example: %s", flat.Hex(b))
	}
	if !edwards.Base().Same(of(t, plainBase())) {
		t.Error("Base is another point than what its encoding is read as")
	}
}

func TestEncode(t *testing.T) {
	want(t, "Encode of a zero P", edwards.P{}, neutral())
	// What came out of sums has other numbers inside than what was read: its form is the same.
	base, three := edwards.Base(), plainBase().mult(big.NewInt(3))
	want(t, "Encode of a sum", base.Add(base).Add(base), three)
	want(t, "Encode of a sum, turned about", base.Add(base.Add(base)), three)
	want(t, "Encode of a product", base.Times(3), three)
	want(t, "Encode of a difference", base.Times(4).Add(base.Neg()), three)
	want(t, "Encode of a difference that is none", base.Times(4).Add(base.Times(4).Neg()), neutral())
}

func TestDecode(t *testing.T) {
	taken, missing := 0, 0
	for k := range 300 {
		for _, b := range [][]byte{drawn(k), turned(drawn(k))} {
			a, ok := plainDecode(b)
			if !ok {
				refused(t, "what was drawn", b)
				missing++
				continue
			}
			want(t, "Decode of what was drawn", of(t, a), a)
			taken++
		}
	}
	if taken < 200 || missing < 200 {
		t.Errorf("%d with a point, %d without", taken, missing)
	}
	for _, a := range points(t) {
		want(t, "Decode", of(t, a), a)
		want(t, "Decode of the negative", of(t, a.neg()), a.neg())
	}
}

// The smallest and the greatest y, with x's bit and without it.
func TestDecodeOfEdges(t *testing.T) {
	for d := range int64(60) {
		for _, y := range []*big.Int{big.NewInt(d), new(big.Int).Sub(prime, big.NewInt(1+d))} {
			for _, b := range [][]byte{form(y), turned(form(y))} {
				if a, ok := plainDecode(b); ok {
					want(t, "Decode", of(t, a), a)
				} else {
					refused(t, "no such x", b)
				}
			}
		}
	}
}

func TestDecodeRefusesLengths(t *testing.T) {
	base := edwards.Base().Encode()
	refused(t, "nil", nil)
	for n := range 32 {
		refused(t, "fewer bytes", base[:n])
		refused(t, "fewer bytes, all noughts", make([]byte, n))
		refused(t, "more bytes", slices.Concat(base, make([]byte, n+1)))
		refused(t, "more bytes", slices.Concat(base, base[:n+1]))
	}
	refused(t, "one byte of the neutral point", []byte{1})
}

// The nineteen y that have two forms in 255 bits: just the lesser one is read.
func TestDecodeRefusesGreatNumbers(t *testing.T) {
	lesser := 0
	for d := range int64(19) {
		great := form(near(255, d-19))
		refused(t, "p and more", great)
		refused(t, "p and more, with x's bit", turned(great))
		if _, e := edwards.Decode(form(big.NewInt(d))); e == api.OK {
			lesser++
		}
	}
	if lesser < 5 {
		t.Errorf("just %d of the lesser forms are points", lesser)
	}
}

// x is 0 just where y is 1 or -1.
func TestDecodeRefusesABitOfNought(t *testing.T) {
	for _, y := range []*big.Int{big.NewInt(1), new(big.Int).Sub(prime, big.NewInt(1))} {
		want(t, "x is 0", of(t, plain{new(big.Int), y}), plain{new(big.Int), y})
		refused(t, "x is 0 and its bit is set", turned(form(y)))
	}
}

// P8.2

func TestAdd(t *testing.T) {
	l := points(t)
	for _, a := range l {
		for _, b := range l {
			want(t, "Add", of(t, a).Add(of(t, b)), a.add(b))
		}
		want(t, "Add of a zero P", of(t, a).Add(edwards.P{}), a)
		want(t, "Add to a zero P", edwards.P{}.Add(of(t, a)), a)
	}
	want(t, "Add of two zero Ps", edwards.P{}.Add(edwards.P{}), neutral())
}

func TestNeg(t *testing.T) {
	for _, a := range points(t) {
		want(t, "Neg", of(t, a).Neg(), a.neg())
		want(t, "Neg of a sum", of(t, a).Add(edwards.Base()).Neg(), a.add(plainBase()).neg())
		want(t, "Add of Neg", of(t, a).Add(of(t, a).Neg()), neutral())
	}
	want(t, "Neg of a zero P", edwards.P{}.Neg(), neutral())
}

func TestMult(t *testing.T) {
	less := new(big.Int).Sub(order, big.NewInt(1))
	l := []*big.Int{new(big.Int), big.NewInt(1), big.NewInt(2), big.NewInt(3), big.NewInt(8), near(64, -1), near(128, 0), near(252, -1), near(252, 0), less}
	for k := range 3 {
		l = append(l, new(big.Int).Mod(number(drawn(k)), order))
	}
	for _, a := range points(t) {
		for _, s := range l {
			want(t, "Mult by "+s.String(), of(t, a).Mult(times(s)), a.mult(s))
		}
	}
	for _, s := range l {
		want(t, "Mult of a zero P", edwards.P{}.Mult(times(s)), neutral())
	}
	twice := plainBase()
	for k := range uint(253) {
		want(t, "Mult by a power of 2", edwards.Base().Mult(times(near(k, 0))), twice)
		twice = twice.add(twice)
	}
	want(t, "Mult by L without 1", edwards.Base().Mult(times(less)), plainBase().neg())
	want(t, "Mult by L", edwards.Base().Mult(times(order)), neutral())
}

// The library's public keys are times the base as well.
func TestMultOfBaseByTheLibrary(t *testing.T) {
	for k := range 20 {
		seed := drawn(k)
		secret := sha2.Sum512(seed)[:32]
		secret[0] &^= 7
		secret[31] = secret[31]&127 | 64
		public := stdlib.NewKeyFromSeed(seed)[32:]
		if got := edwards.Base().Mult(scalar.Wide(secret)).Encode(); !bytes.Equal(got, public) {
			t.Errorf("%d: got %s, want %s", k, flat.Hex(got), flat.Hex(public))
		}
	}
}

func TestTimes(t *testing.T) {
	l := points(t)
	for _, a := range l {
		sum := neutral()
		for k := range 40 {
			want(t, "Times", of(t, a).Times(k), sum)
			sum = sum.add(a)
		}
	}
	a := l[len(l)-1]
	for _, k := range []int64{100, 255, 256, 65535, 1 << 20, 1<<30 - 1, 1 << 30, 1<<31 - 2, 1<<31 - 1, 1 << 31} {
		for _, b := range []plain{a, plainBase(), l[1]} {
			want(t, "Times", of(t, b).Times(int(k)), b.mult(big.NewInt(k)))
		}
	}
	want(t, "Times of a zero P", edwards.P{}.Times(1<<31), neutral())
}

func TestTimesOfOthers(t *testing.T) {
	for _, k := range []int{-1, -2, -8, -1 << 31, math.MinInt, math.MinInt + 1, 1<<31 + 1, 1<<31 + 2, 1 << 32, 1<<32 + 1, 1<<62 + 1, math.MaxInt} {
		for _, a := range points(t) {
			want(t, "Times of another", of(t, a).Times(k), neutral())
		}
	}
}

func TestSame(t *testing.T) {
	l := points(t)
	for i, a := range l {
		other := of(t, a).Add(edwards.Base()).Add(edwards.Base().Neg())
		if !of(t, a).Same(other) || !other.Same(of(t, a)) {
			t.Errorf("not the same as by another way: %d", i)
		}
		for j, b := range l {
			if got := of(t, a).Same(of(t, b)); got != a.same(b) {
				t.Errorf("Same of %d and %d: %t", i, j, got)
			}
		}
		if got := of(t, a).Same(edwards.P{}); got != a.same(neutral()) {
			t.Errorf("Same of %d and a zero P: %t", i, got)
		}
		if got := (edwards.P{}).Same(other); got != a.same(neutral()) {
			t.Errorf("Same of a zero P and %d: %t", i, got)
		}
	}
	if !(edwards.P{}).Same(edwards.P{}) {
		t.Error("a zero P is not itself")
	}
}

// A point of which one coordinate alone is another's is another one.
func TestSameOfBothCoordinates(t *testing.T) {
	for _, a := range some(10) {
		if of(t, a).Same(of(t, a.neg())) {
			t.Error("the same y is enough")
		}
		other := of(t, plain{a.x, mod(new(big.Int).Neg(a.y))})
		if of(t, a).Same(other) {
			t.Error("the same x is enough")
		}
	}
}

func TestSmall(t *testing.T) {
	for i, small := range torsion(t) {
		if !of(t, small).Small() {
			t.Errorf("%d times a point of order 8 is not small", i)
		}
		if of(t, small.add(plainBase())).Small() {
			t.Errorf("the base and %d times a point of order 8 is small", i)
		}
	}
	for i, a := range points(t) {
		if got := of(t, a).Small(); got != a.mult(big.NewInt(8)).same(neutral()) {
			t.Errorf("Small of %d: %t", i, got)
		}
	}
	if !(edwards.P{}).Small() {
		t.Error("a zero P is not small")
	}
	if !edwards.Base().Add(edwards.Base().Neg()).Small() {
		t.Error("a sum that is the neutral point is not small")
	}
}

// Those of small order by what they are: x or y is 0, or both squares are told by a root of -1.
func TestSmallByTheCurve(t *testing.T) {
	for _, a := range []plain{
		neutral(),
		{new(big.Int), mod(big.NewInt(-1))},
		{turn, new(big.Int)},
		{mod(new(big.Int).Neg(turn)), new(big.Int)},
	} {
		if p := of(t, a); !p.Small() || !p.Times(4).Same(edwards.P{}) {
			t.Errorf("not small: %s", flat.Hex(a.encode()))
		}
	}
	b, _ := flat.Unhex("26e8958fc2b227b045c3f489f2ef98f0d5dfac05d3c63339b13802886d53fc05")
	p, e := edwards.Decode(b)
	if e != api.OK || !p.Small() || p.Times(4).Same(edwards.P{}) {
		t.Errorf("the known one of order 8: %d", e)
	}
}

// P8.3

func TestGroup(t *testing.T) {
	l := points(t)
	for i := range l {
		a, b, c := of(t, l[i]), of(t, l[(i*5+3)%len(l)]), of(t, l[(i*7+1)%len(l)])
		r, s := scalar.Wide(drawn(i)), scalar.Wide(drawn(i+100))
		for what, pair := range map[string][2]edwards.P{
			"Add turned":        {a.Add(b), b.Add(a)},
			"Add in a row":      {a.Add(b).Add(c), a.Add(b.Add(c))},
			"Add of a zero P":   {a.Add(edwards.P{}), a},
			"Add of Neg":        {a.Add(a.Neg()), edwards.P{}},
			"Neg of Neg":        {a.Neg().Neg(), a},
			"Neg of a sum":      {a.Add(b).Neg(), a.Neg().Add(b.Neg())},
			"Mult over Add":     {a.Add(b).Mult(s), a.Mult(s).Add(b.Mult(s))},
			"Mult of Neg":       {a.Neg().Mult(s), a.Mult(s).Neg()},
			"Mult in a row":     {a.Times(8).Mult(r).Mult(s), a.Times(8).Mult(r.Mul(s))},
			"Mult of a sum":     {a.Times(8).Mult(r.Add(s)), a.Times(8).Mult(r).Add(a.Times(8).Mult(s))},
			"Times of a sum":    {a.Times(300), a.Times(299).Add(a)},
			"Times in a row":    {a.Times(15).Times(20), a.Times(300)},
			"Times and Mult":    {a.Times(300), a.Mult(times(big.NewInt(300)))},
			"a sum less itself": {a.Add(b).Add(b.Neg()), a},
		} {
			if !pair[0].Same(pair[1]) || !bytes.Equal(pair[0].Encode(), pair[1].Encode()) {
				t.Errorf("%s, of point %d", what, i)
			}
		}
	}
}

func TestDecodeOfEncode(t *testing.T) {
	p := edwards.P{}
	for i, a := range slices.Concat(points(t), points(t)) {
		p = p.Add(of(t, a)).Times(i + 1)
		b := p.Encode()
		if len(b) != 32 {
			t.Fatalf("%d bytes", len(b))
		}
		if q, e := edwards.Decode(b); e != api.OK || !q.Same(p) || !p.Same(q) {
			t.Errorf("Decode of Encode of sum %d: %d", i, e)
		}
	}
}

// together is all of l, by what it is told to add by.
func together(add func(edwards.P, edwards.P) edwards.P, l ...edwards.P) edwards.P {
	var out edwards.P
	for _, a := range l {
		out = add(out, a)
	}
	return out
}

// That P.Add may be handed on.
func TestAddAsAFunction(t *testing.T) {
	base := edwards.Base()
	want(t, "the method expression", together(edwards.P.Add, base, base.Times(2), base.Times(4), edwards.P{}), plainBase().mult(big.NewInt(7)))
	want(t, "the method expression, of none", together(edwards.P.Add), neutral())
	a := base.Times(5)
	onto := a.Add
	a = edwards.P{}
	want(t, "the method value", onto(base), plainBase().mult(big.NewInt(6)))
}

func TestNothingIsChangedOrKept(t *testing.T) {
	for _, plain := range [][]byte{edwards.Base().Encode(), edwards.Base().Neg().Encode(), edwards.Base().Encode()[:31], bytes.Repeat([]byte{255}, 32)} {
		b := roomy(plain...)
		a, _ := edwards.Decode(b)
		if !bytes.Equal(whole(b), whole(roomy(plain...))) {
			t.Fatalf("what was handed in was changed: %v", whole(b))
		}
		before := a.Encode()
		fill(b)
		if !bytes.Equal(a.Encode(), before) {
			t.Errorf("what was handed in was kept, of %d bytes", len(b))
		}
	}
	l := some(2)
	a, b := of(t, l[0]), of(t, l[1])
	a.Add(b)
	a.Add(a)
	a.Neg()
	a.Mult(scalar.Wide(drawn(1)))
	a.Times(9)
	a.Same(b)
	a.Small()
	a.Encode()
	want(t, "the first", a, l[0])
	want(t, "the second", b, l[1])
}

func TestAnswersAreNewMemory(t *testing.T) {
	a := edwards.Base()
	for _, p := range []edwards.P{a, {}, a.Add(a)} {
		one, two := p.Encode(), p.Encode()
		fill(one)
		if bytes.Equal(one, two) || !bytes.Equal(p.Encode(), two) {
			t.Errorf("behind a change of the first: %s", flat.Hex(two))
		}
	}
	want(t, "Base, behind a change of what it told", edwards.Base(), plainBase())
}
