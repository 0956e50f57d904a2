package sha3_test

import (
	"bytes"
	other "crypto/sha3"
	"math"
	"slices"
	"strings"
	"testing"

	"missive/flat"
	"missive/sha3"
)

// most is how many bytes one call reads.
const most = 1 << 16

// text is n bytes by a pattern that k turns.
func text(n, k int) []byte {
	out := make([]byte, n)
	for i := range out {
		out[i] = byte(i*k + i/251 + n)
	}
	return out
}

// other256, other512, other128 are the sums, and SHAKE128, by another program than this one.
func other256(b []byte) []byte { s := other.Sum256(b); return s[:] }

func other512(b []byte) []byte { s := other.Sum512(b); return s[:] }

func other128(b []byte, n int) []byte { return other.SumSHAKE128(b, n) }

// want fails where got has other bytes.
func want(t *testing.T, what string, got, wanted []byte) {
	t.Helper()
	if !bytes.Equal(got, wanted) {
		t.Fatalf("%s:\n got %s\nwant %s", what, flat.Hex(got), flat.Hex(wanted))
	}
}

// none fails where got has bytes.
func none(t *testing.T, what string, got []byte) {
	t.Helper()
	if len(got) != 0 {
		t.Errorf("%s: %d bytes", what, len(got))
	}
}

// roomy is b with spare room behind it that a careless append would write to.
func roomy(b ...byte) []byte {
	return append(slices.Clone(b), 201, 202, 203, 204, 205, 206, 207, 208)[:len(b)]
}

// whole is b with its spare room.
func whole(b []byte) []byte { return b[:cap(b)] }

// fill overwrites b and its spare room.
func fill(b []byte) {
	for i := range whole(b) {
		whole(b)[i] = 99
	}
}

// P3.1

func TestPublishedSums(t *testing.T) {
	const two = "abcdbcdecdefdefgefghfghighijhijkijkljklmklmnlmnomnopnopq"
	million := strings.Repeat("a", 1000000)
	for _, c := range []struct{ text, sum string }{
		{"", "a7ffc6f8bf1ed76651c14756a061d662f580ff4de43b49fa82d80a4b80f8434a"},
		{"abc", "3a985da74fe225b2045c172d6bd390bd855f086e3e9d525b46bfe24511431532"},
		{two, "41c0dba2a9d6240849100376a8235e2c82e1b9998a999e21db32dd97496d3376"},
		{million, "5c8875ae474a3634ba4fd55ec85bffd661f32aca75c6d699d0cdcb6c115891c1"},
	} {
		if got := flat.Hex(sha3.Sum256([]byte(c.text))); got != c.sum {
			t.Errorf("Sum256 of %d bytes: %s", len(c.text), got)
		}
	}
	for _, c := range []struct{ text, sum string }{
		{"", "a69f73cca23a9ac5c8b567dc185a756e97c982164fe25859e0d1dcc1475c80a615b2123af1f5f94c11e3e9402c3ac558f500199d95b6d3e301758586281dcd26"},
		{"abc", "b751850b1a57168a5693cd924b6b096e08f621827444f70d884f5d0240d2712e10e116e9192af3c91a7ec57647e3934057340b4cf408d5a56592f8274eec53f0"},
		{two, "04a371e84ecfb5b8b77cb48610fca8182dd457ce6f326a0fd3d7ec2f1e91636dee691fbe0c985302ba1b0d8dc78c086346b533b49c030d99a27daf1139d6e75e"},
		{million, "3c3a876da14034ab60627c077bb98f7e120a2a5370212dffb3385a18d4f38859ed311d0a9d5141ce9cc5c66ee689b266a8aa18ace8282a0e0db596c90b0a7b87"},
	} {
		if got := flat.Hex(sha3.Sum512([]byte(c.text))); got != c.sum {
			t.Errorf("Sum512 of %d bytes: %s", len(c.text), got)
		}
	}
	if got := flat.Hex(sha3.Shake128(32)); got != "7f9c2ba4e88f827d616045507605853ed73b8093f6efbc88eb1a6eacfa66ef26" {
		t.Errorf("Shake128 of nothing: %s", got)
	}
	if got := flat.Hex(sha3.Shake256(64)); got != "46b9dd2b0ba88d13233b3feb743eeb243fcd52ea62b81b82b50c27646ed5762fd75dc4ddd8c0f200cb05019d67b592f6fc821c49479ab48640292eacb3b7c4be" {
		t.Errorf("Shake256 of nothing: %s", got)
	}
}

// All lengths around the ends of the first blocks: there the ending is one byte, or stands in a block of its own.
func TestSumsOfAllLengths(t *testing.T) {
	for n := range 600 {
		for _, b := range [][]byte{text(n, 7), make([]byte, n), bytes.Repeat([]byte{255}, n)} {
			want(t, "Sum256", sha3.Sum256(b), other256(b))
			want(t, "Sum512", sha3.Sum512(b), other512(b))
			want(t, "Shake128", sha3.Shake128(200, b), other128(b, 200))
			want(t, "Shake256", sha3.Shake256(200, b), other.SumSHAKE256(b, 200))
		}
	}
}

func TestSumsOfSeveral(t *testing.T) {
	for _, l := range [][][]byte{nil, {}, {nil}, {nil, {}, nil}} {
		want(t, "Sum256 of nothing", sha3.Sum256(l...), other256(nil))
		want(t, "Sum512 of nothing", sha3.Sum512(l...), other512(nil))
		want(t, "Shake128 of nothing", sha3.Shake128(50, l...), other128(nil, 50))
		want(t, "Shake256 of nothing", sha3.Shake256(50, l...), other.SumSHAKE256(nil, 50))
	}
	want(t, "Sum256 in order", sha3.Sum256([]byte("ab"), []byte("c")), other256([]byte("abc")))
	want(t, "Sum512 turned about", sha3.Sum512([]byte("c"), []byte("ab")), other512([]byte("cab")))
	want(t, "Shake128 turned about", sha3.Shake128(9, []byte("c"), []byte("ab")), other128([]byte("cab"), 9))
	want(t, "Shake256 turned about", sha3.Shake256(9, []byte("c"), []byte("ab")), other.SumSHAKE256([]byte("cab"), 9))
}

func TestShakeOfAllLengths(t *testing.T) {
	b := text(40, 5)
	for n := range 700 {
		want(t, "Shake128", sha3.Shake128(n, b), other128(b, n))
		want(t, "Shake256", sha3.Shake256(n, b), other.SumSHAKE256(b, n))
	}
	for _, n := range []int{most - 1, most, most + 1, most + 5, 1 << 30, math.MaxInt32, math.MaxInt} {
		want(t, "Shake128 of many", sha3.Shake128(n, b), other128(b, min(n, most)))
		want(t, "Shake256 of many", sha3.Shake256(n, b), other.SumSHAKE256(b, min(n, most)))
	}
	for _, n := range []int{0, -1, -most, math.MinInt32, math.MinInt} {
		none(t, "Shake128 of none", sha3.Shake128(n, b))
		none(t, "Shake256 of none", sha3.Shake256(n, b))
		none(t, "Shake128 of none, of nothing", sha3.Shake128(n))
		none(t, "Shake256 of none, of nothing", sha3.Shake256(n))
	}
}

// P3.2

func TestReaderReadsShake(t *testing.T) {
	for n := range 600 {
		b := text(n, 3)
		want(t, "Read", sha3.NewReader(b).Read(400), other128(b, 400))
		want(t, "Read of several", sha3.NewReader(nil, b[:n/3], b[n/3:n/2], nil, b[n/2:]).Read(40), other128(b, 40))
	}
	want(t, "Read of nothing", sha3.NewReader().Read(500), other128(nil, 500))
	want(t, "Read of empty ones", sha3.NewReader(nil, []byte{}).Read(500), other128(nil, 500))
	for n := 1; n < 600; n++ {
		want(t, "a first Read", sha3.NewReader([]byte{7}).Read(n), other128([]byte{7}, n))
	}
}

func TestReadRefused(t *testing.T) {
	b := text(90, 3)
	for _, n := range []int{0, -1, -168, math.MinInt32, math.MinInt, most + 1, most + 168, 1 << 30, math.MaxInt32, math.MaxInt} {
		r := sha3.NewReader(b)
		none(t, "a first Read", r.Read(n))
		var got []byte
		for k := range 40 {
			got = append(got, r.Read(k)...)
			none(t, "a Read between", r.Read(n))
		}
		// Nothing may be passed over.
		want(t, "what was read around it", got, other128(b, len(got)))
	}
}

func TestReadOfTheMost(t *testing.T) {
	b := text(33, 3)
	all := other128(b, 3*most)
	r := sha3.NewReader(b)
	want(t, "the first", r.Read(most), all[:most])
	want(t, "one byte", r.Read(1), all[most:most+1])
	want(t, "the second", r.Read(most), all[most+1:2*most+1])
	want(t, "almost the most", r.Read(most-1), all[2*most+1:])
}

func TestNilReader(t *testing.T) {
	var r *sha3.Reader
	for _, n := range []int{math.MinInt, -1, 0, 1, 5, 168, most, most + 1, math.MaxInt} {
		none(t, "Read of nil", r.Read(n))
	}
}

// Of a Reader that NewReader did not make the chapter says nothing: it may not panic, nor give noughts for what should be drawn.
func TestZeroReader(t *testing.T) {
	var r sha3.Reader
	none(t, "Read(0)", r.Read(0))
	none(t, "Read of too many", r.Read(most+1))
	got := r.Read(5)
	got = append(got, r.Read(300)...)
	want(t, "Read of a zero one", got, other128(nil, 305))
}

// P3.3

func TestReadsAreOne(t *testing.T) {
	b := text(50, 3)
	all := other128(b, 2000)
	for step := 1; step <= 700; step++ {
		r := sha3.NewReader(b)
		for left := all; len(left) > 0; {
			n := min(step, len(left))
			want(t, "Read", r.Read(n), left[:n])
			left = left[n:]
		}
	}
	r := sha3.NewReader(b)
	var got []byte
	for n := range 62 {
		got = append(got, r.Read(n)...)
	}
	want(t, "Reads of all sizes", got, all[:len(got)])
}

func TestPiecesAreTheSame(t *testing.T) {
	all := text(500, 13)
	for step := 1; step <= len(all); step++ {
		l := slices.Collect(slices.Chunk(all, step))
		want(t, "Sum256", sha3.Sum256(l...), other256(all))
		want(t, "Sum512", sha3.Sum512(l...), other512(all))
		want(t, "Shake128", sha3.Shake128(70, l...), other128(all, 70))
		want(t, "Shake256", sha3.Shake256(70, l...), other.SumSHAKE256(all, 70))
		want(t, "Read", sha3.NewReader(l...).Read(70), other128(all, 70))
	}
}

func TestReadersHaveNothingInCommon(t *testing.T) {
	a, b := text(20, 3), text(21, 3)
	r, s, again := sha3.NewReader(a), sha3.NewReader(b), sha3.NewReader(a)
	var one, two []byte
	for n := range 50 {
		one = append(one, r.Read(n)...)
		two = append(two, s.Read(2*n)...)
		sha3.Sum512(one, two)
	}
	want(t, "the first", one, other128(a, len(one)))
	want(t, "the second", two, other128(b, len(two)))
	want(t, "one made of the same", again.Read(200), other128(a, 200))
}

func TestReaderIsAValue(t *testing.T) {
	r := sha3.NewReader([]byte("a"))
	r.Read(100)
	c := *r
	c.Read(100)
	all := other128([]byte("a"), 300)
	want(t, "the first", r.Read(200), all[100:])
	want(t, "the second", c.Read(100), all[200:])
}

func TestNothingIsChanged(t *testing.T) {
	a, b := roomy(text(170, 3)...), roomy(1, 2)
	row := [][]byte{a, b, {7}}[:2]
	sha3.Sum256(row...)
	sha3.Sum512(row...)
	sha3.Shake128(200, row...)
	sha3.Shake256(200, row...)
	sha3.NewReader(row...).Read(200)
	want(t, "the first list", whole(a), whole(roomy(text(170, 3)...)))
	want(t, "the second list", whole(b), whole(roomy(1, 2)))
	want(t, "what stands behind the row", row[:3][2], []byte{7})
	want(t, "the row's first", row[0], text(170, 3))
	want(t, "the row's second", row[1], []byte{1, 2})
}

func TestNothingIsKept(t *testing.T) {
	for _, n := range []int{1, 135, 136, 167, 168, 169, 400} {
		b := roomy(text(n, 3)...)
		row := [][]byte{b}
		r := sha3.NewReader(row...)
		fill(b)
		row[0] = nil
		want(t, "Read", r.Read(100), other128(text(n, 3), 100))
		fill(b)
		want(t, "Read again", r.Read(300), other128(text(n, 3), 400)[100:])
	}
}

func TestAnswersAreNewMemory(t *testing.T) {
	b := text(70, 3)
	for _, f := range []func() []byte{
		func() []byte { return sha3.Sum256(b) },
		func() []byte { return sha3.Sum512(b) },
		func() []byte { return sha3.Shake128(50, b) },
		func() []byte { return sha3.Shake256(500, b) },
		func() []byte { return sha3.NewReader(b).Read(200) },
	} {
		one, two := f(), f()
		kept := slices.Clone(two)
		fill(one)
		want(t, "the same behind a change of the first", two, kept)
		want(t, "one made behind it", f(), kept)
	}
	want(t, "what was handed in", b, text(70, 3))
	r := sha3.NewReader(b)
	var got []byte
	for n := range 60 {
		x := r.Read(n)
		got = append(got, x...)
		fill(x)
	}
	want(t, "Reads behind changes of what was read", got, other128(b, len(got)))
}
