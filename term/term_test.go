package term_test

import (
	"fmt"
	"math"
	"reflect"
	"slices"
	"strconv"
	"strings"
	"testing"

	"missive/api"
	"missive/term"
)

// words is of each kind its word, by the document.
var words = map[string]int{"n": api.TAtom, "pub": api.TPub, "dh": api.TDH, "kem": api.TKem, "ct": api.TCt, "h": api.THash, "enc": api.TEnc, "sig": api.TSign, "pair": api.TPair}

// n is an atom.
func n(name int) api.Term { return api.Term{Kind: api.TAtom, Name: name} }

// of is a term with these kids.
func of(kind int, kids ...api.Term) api.Term { return api.Term{Kind: kind, Kids: kids} }

// read is the term that s writes, the kids as they stand there, and what is left of s.
func read(s string) (api.Term, string) {
	at := strings.IndexAny(s, "0123456789(")
	out := of(words[s[:at]])
	if s[at] != '(' {
		end := at
		for end < len(s) && s[end] >= '0' && s[end] <= '9' {
			end++
		}
		out.Name, _ = strconv.Atoi(s[at:end])
		return out, s[end:]
	}
	for s = s[at:]; s[0] != ')'; {
		var kid api.Term
		kid, s = read(s[1:])
		out.Kids = append(out.Kids, kid)
	}
	return out, s[1:]
}

// row is the terms that s writes, with blanks between.
func row(s string) []api.Term {
	var out []api.Term
	for _, w := range strings.Fields(s) {
		x, _ := read(w)
		out = append(out, x)
	}
	return out
}

// one is the term that s writes.
func one(s string) api.Term { return row(s)[0] }

// write is the texts of l, with blanks between.
func write(l []api.Term) string {
	var out []string
	for _, x := range l {
		out = append(out, term.Text(x))
	}
	return strings.Join(out, " ")
}

// is fails where got is not what was wanted.
func is(t *testing.T, what string, got, wanted any) {
	t.Helper()
	if !reflect.DeepEqual(got, wanted) {
		t.Errorf("%s:\n got %v\nwant %v", what, got, wanted)
	}
}

// kidsOf is how many kids a term of a kind has at least and at most, by the document; -1 of no kind.
func kidsOf(kind int) (least, most int) {
	switch kind {
	case api.TAtom:
		return 0, 0
	case api.TPub:
		return 1, 1
	case api.TDH, api.TKem, api.TCt, api.TEnc, api.TSign, api.TPair:
		return 2, 2
	case api.THash:
		return 1, 8
	}
	return -1, -1
}

// same is a row of this many of x.
func same(many int, x api.Term) []api.Term { return slices.Repeat([]api.Term{x}, many) }

// bush is a term in which so many stand, a few deep.
func bush(size int) api.Term {
	if size < 2 {
		return n(1)
	}
	out := of(api.THash)
	for left, places := size-1, 8; left > 0; places-- {
		s := (left + places - 1) / places
		out.Kids = append(out.Kids, bush(s))
		left -= s
	}
	return out
}

// tower is so many deep: each is of that kind, with the one below it at that place, and atoms beside it.
func tower(deep, kind, place int) api.Term {
	out := n(1)
	least, _ := kidsOf(kind)
	for range deep - 1 {
		kids := same(max(least, place+1), n(2))
		kids[place] = out
		out = of(kind, kids...)
	}
	return out
}

// selves is terms that are within themselves, and one that doubles so often that it never ends.
func selves() []api.Term {
	var out []api.Term
	for kind := api.TPub; kind <= api.TKinds; kind++ {
		least, _ := kidsOf(kind)
		l := same(least, n(1))
		l[0] = api.Term{Kind: kind, Kids: l}
		out = append(out, l[0], of(api.TPair, n(2), l[0]))
	}
	l := make([]api.Term, 8)
	for i := range l {
		l[i] = api.Term{Kind: api.THash, Kids: l}
	}
	x := n(3)
	for range 90 {
		x = of(api.TPair, x, x)
	}
	return append(out, l[0], x)
}

// wrong is terms that may not be.
func wrong() []api.Term {
	return append(selves(), n(-1), n(1<<30+1), n(math.MaxInt), n(math.MinInt), of(0), of(10), of(-1, n(1)), of(math.MaxInt, n(1), n(2)), of(math.MinInt),
		of(api.TAtom, n(1)), of(api.TPub), of(api.TPub, n(1), n(2)), of(api.TDH, n(1)), of(api.TPair, n(1), n(2), n(3)), of(api.THash), of(api.THash, same(9, n(1))...),
		of(api.TPub, n(-1)), of(api.TPair, n(1), of(0)), of(api.THash, n(1), n(2), of(api.TPub)), tower(101, api.TPub, 0), bush(5001), of(api.THash, same(1<<16, n(1))...))
}

// P17.1: May

func TestMayNames(t *testing.T) {
	for name, wanted := range map[int]bool{0: true, 1: true, 1<<30 - 1: true, 1 << 30: true, 1<<30 + 1: false, 1 << 31: false, 1 << 32: false, math.MaxInt: false, -1: false, math.MinInt: false} {
		is(t, fmt.Sprint("May of the Name ", name), term.May(n(name)), wanted)
		is(t, fmt.Sprint("May within, of the Name ", name), term.May(of(api.TPub, of(api.TDH, n(1), n(name)))), wanted)
	}
}

// A Name is asked of a TAtom alone.
func TestNameOfOthers(t *testing.T) {
	for _, name := range []int{1, -1, 1<<30 + 1, math.MinInt} {
		x := api.Term{Kind: api.TPub, Name: name, Kids: []api.Term{n(1)}}
		y := of(api.TPair, n(2), x)
		is(t, "May", []bool{term.May(x), term.May(y)}, []bool{true, true})
		is(t, "Same", []bool{term.Same(x, one("pub(n1)")), term.Same(one("pair(n2,pub(n1))"), y)}, []bool{true, true})
		is(t, "Text", term.Text(y), "pair(n2,pub(n1))")
		is(t, "Parts", term.Parts(y), row("pair(n2,pub(n1)) n2 pub(n1) n1"))
		is(t, "Opens", term.World{}.Opens([]api.Term{y}), row("pair(n2,pub(n1)) n2 pub(n1)"))
		is(t, "Knows", term.World{}.Knows([]api.Term{x}, one("pub(n1)")), true)
	}
}

func TestMayKinds(t *testing.T) {
	for kind := -2; kind < 13; kind++ {
		least, most := kidsOf(kind)
		for many := range 11 {
			x := of(kind, same(many, n(1))...)
			is(t, fmt.Sprintf("May of the kind %d with %d kids", kind, many), term.May(x), many >= least && many <= most)
			is(t, "Size", term.Size(x), many+1)
		}
	}
	for _, kind := range []int{math.MinInt, math.MaxInt, 1<<32 + api.TAtom, 256 + api.TAtom} {
		is(t, fmt.Sprint("May of the kind ", kind), term.May(of(kind)), false)
	}
	is(t, "May of no kids that are a list", term.May(api.Term{Kind: api.TAtom, Kids: []api.Term{}}), true)
}

func TestMayKids(t *testing.T) {
	for kind := api.TPub; kind <= api.TKinds; kind++ {
		_, most := kidsOf(kind)
		for place := range most {
			for _, bad := range []api.Term{n(-1), n(1<<30 + 1), of(0), of(api.TAtom, n(1)), of(api.TPub), one("pair(n1)"), of(api.TDH, n(1), of(11))} {
				kids := same(most, n(1))
				is(t, "May with kids that may be", term.May(of(kind, kids...)), true)
				kids[place] = bad
				is(t, fmt.Sprintf("May of the kind %d with the kid %v at %d", kind, bad, place), term.May(of(kind, kids...)), false)
			}
		}
	}
}

func TestMayDeep(t *testing.T) {
	for kind := api.TPub; kind <= api.TKinds; kind++ {
		_, most := kidsOf(kind)
		for place := range most {
			for deep, wanted := range map[int]bool{1: true, 2: true, 99: true, 100: true, 101: false, 102: false, 500: false} {
				is(t, fmt.Sprintf("May of the kind %d, %d deep at %d", kind, deep, place), term.May(tower(deep, kind, place)), wanted)
			}
		}
	}
	is(t, "Size of one that is deep", []int{term.Size(tower(100, api.TPub, 0)), term.Size(tower(101, api.TPair, 1)), term.Size(tower(9000, api.TPub, 0))}, []int{100, 201, 5001})
}

func TestMaySize(t *testing.T) {
	for size, wanted := range map[int]bool{1: true, 2: true, 9: true, 10: true, 4999: true, 5000: true, 5001: false, 5002: false, 20000: false} {
		x := bush(size)
		is(t, fmt.Sprint("May of ", size), term.May(x), wanted)
		is(t, fmt.Sprint("Size of ", size), term.Size(x), min(size, 5001))
		is(t, fmt.Sprint("Text of ", size), term.Text(x) != "", wanted)
		is(t, fmt.Sprint("Same of ", size), term.Same(x, bush(size)), wanted)
	}
	is(t, "May of 5000 and one above", term.May(of(api.TPub, bush(5000))), false)
	is(t, "May of 4999 and one above", term.May(of(api.TPub, bush(4999))), true)
}

// P17.1: Size

func TestSize(t *testing.T) {
	for s, wanted := range map[string]int{"n7": 1, "pub(n7)": 2, "pair(n1,n1)": 3, "h(n1,pub(n1),dh(n1,n2),n1)": 8, "pair(pair(n1,n2),pair(n1,n2))": 7} {
		is(t, "Size of "+s, term.Size(one(s)), wanted)
	}
	// Of those that may not be, too.
	is(t, "Size of those", []int{term.Size(of(0)), term.Size(of(0, of(-1), of(99, n(-1)))), term.Size(of(api.TAtom, n(1))), term.Size(of(api.THash, same(4999, n(1))...)), term.Size(of(api.THash, same(5000, n(1))...)), term.Size(of(api.THash, same(1<<16, n(1))...))}, []int{1, 4, 2, 5000, 5001, 5001})
	for _, x := range selves() {
		is(t, "Size of one that does not end", term.Size(x), 5001)
	}
	is(t, "Size of two that do not end", term.Size(of(api.TPair, selves()...)), 5001)
}

// P17.1: Same

func TestSame(t *testing.T) {
	alike := []string{
		"n1 n1", "n0 n0", "dh(n1,n2) dh(n2,n1)", "dh(n1,pub(n2)) dh(pub(n2),n1)", "pub(dh(n1,n2)) pub(dh(n2,n1))", "dh(dh(n1,n2),dh(n3,n4)) dh(dh(n4,n3),dh(n1,n2))",
		"h(n3,dh(n1,n2),n4) h(n3,dh(n2,n1),n4)", "enc(dh(n1,n2),sig(n1,dh(n2,n1))) enc(dh(n2,n1),sig(n1,dh(n1,n2)))", "dh(n1,n1) dh(n1,n1)", "kem(n1,n2) kem(n1,n2)",
	}
	other := []string{
		"n1 n2", "n1 pub(n1)", "pub(n1) h(n1)", "pub(n1) pub(n2)", "kem(n1,n2) kem(n2,n1)", "ct(n1,n2) ct(n2,n1)", "h(n1,n2) h(n2,n1)", "enc(n1,n2) enc(n2,n1)", "sig(n1,n2) sig(n2,n1)", "pair(n1,n2) pair(n2,n1)",
		"kem(n1,n2) ct(n1,n2)", "kem(n1,n2) dh(n1,n2)", "enc(n1,n2) sig(n1,n2)", "pair(n1,n2) h(n1,n2)", "h(n1) h(n1,n1)", "h(n1,n2) h(n1,n2,n2)", "h(n1,n2,n3) h(n1,h(n2,n3))", "pair(n1,pair(n2,n3)) pair(pair(n1,n2),n3)",
		"dh(n1,n2) dh(n1,n3)", "dh(n1,n1) dh(n2,n2)", "dh(n1,n1) dh(n1,n2)", "dh(dh(n1,n2),n3) dh(dh(n1,n3),n2)", "pair(dh(n1,n2),n3) pair(n3,dh(n1,n2))", "n1 n11", "h(n0) h(n0,n0)", "h(n1) pub(n1)",
	}
	for i, s := range append(alike, other...) {
		l := row(s)
		is(t, "Same of "+s, []bool{term.Same(l[0], l[1]), term.Same(l[1], l[0]), term.Same(l[0], l[0])}, []bool{i < len(alike), i < len(alike), true})
	}
	is(t, "Same of no kids", term.Same(n(1), api.Term{Kind: api.TAtom, Name: 1, Kids: []api.Term{}}), true)
}

// P17.1 to P17.3: those that may not be

func TestMayNot(t *testing.T) {
	var w term.World
	bad := wrong()
	for i, x := range bad {
		if term.May(x) || term.Same(x, x) || term.Same(x, n(1)) || term.Same(n(1), x) {
			t.Errorf("the wrong one %d: May or Same", i)
		}
		if term.Text(x) != "" || term.Parts(x) != nil {
			t.Errorf("the wrong one %d has a Text, or Parts", i)
		}
		if w.Knows([]api.Term{x}, x) || w.Knows([]api.Term{n(1)}, x) || w.Knows([]api.Term{x}, n(7)) || !w.Knows([]api.Term{x, n(7)}, n(7)) {
			t.Errorf("the wrong one %d: Knows", i)
		}
		is(t, "Opens of a wrong one", w.Opens([]api.Term{x}), []api.Term(nil))
	}
	is(t, "Opens of wrong ones and one between", write(w.Opens(slices.Concat(bad, row("pair(n1,n2)"), bad))), "pair(n1,n2) n1 n2")
}

// P17.1: Parts

func TestParts(t *testing.T) {
	for s, wanted := range map[string]string{
		"n5":                                "n5",
		"pub(n5)":                           "pub(n5) n5",
		"pair(n1,n1)":                       "pair(n1,n1) n1",
		"h(n3,n1,n2,n3)":                    "h(n3,n1,n2,n3) n3 n1 n2",
		"pair(pair(n4,n3),pub(n2))":         "pair(pair(n4,n3),pub(n2)) pair(n4,n3) n4 n3 pub(n2) n2",
		"enc(kem(n1,n2),sig(n3,ct(n1,n2)))": "enc(kem(n1,n2),sig(n3,ct(n1,n2))) kem(n1,n2) n1 n2 sig(n3,ct(n1,n2)) n3 ct(n1,n2)",
		// The kids of a TDH as they come, and each once whichever comes first.
		"dh(n2,n1)":                        "dh(n2,n1) n2 n1",
		"pair(dh(n2,n1),dh(n1,n2))":        "pair(dh(n2,n1),dh(n1,n2)) dh(n2,n1) n2 n1",
		"h(pub(dh(n9,n1)),pub(dh(n1,n9)))": "h(pub(dh(n9,n1)),pub(dh(n1,n9))) pub(dh(n9,n1)) dh(n9,n1) n9 n1",
		"dh(pub(n2),dh(n2,n1))":            "dh(pub(n2),dh(n2,n1)) pub(n2) n2 dh(n2,n1) n1",
		// One that was there already as a kid goes where it first came.
		"pair(n1,pub(n1))":       "pair(n1,pub(n1)) n1 pub(n1)",
		"h(h(n1,n2),pub(n2),n1)": "h(h(n1,n2),pub(n2),n1) h(n1,n2) n1 n2 pub(n2)",
	} {
		is(t, "Parts of "+s, term.Parts(one(s)), row(wanted))
	}
	x := tower(100, api.TPub, 0)
	l := term.Parts(x)
	for i := range 100 {
		is(t, "Size of a part", term.Size(l[i]), 100-i)
	}
	is(t, "Parts of a great one", len(term.Parts(many(5000))), 5000)
}

// many is a term in which so many stand, no two alike but for none.
func many(size int) api.Term {
	name := 0
	var grow func(size int) api.Term
	grow = func(size int) api.Term {
		if size < 2 {
			name++
			return n(name)
		}
		out := of(api.THash)
		for left, places := size-1, 8; left > 0; places-- {
			s := (left + places - 1) / places
			out.Kids = append(out.Kids, grow(s))
			left -= s
		}
		return out
	}
	return grow(size)
}

// P17.3

func TestText(t *testing.T) {
	for s, wanted := range map[string]string{
		"n0": "n0", "n1073741824": "n1073741824", "pub(n1)": "pub(n1)", "kem(n2,n1)": "kem(n2,n1)", "ct(n2,n1)": "ct(n2,n1)", "h(n1)": "h(n1)", "h(n8,n7,n6,n5,n4,n3,n2,n1)": "h(n8,n7,n6,n5,n4,n3,n2,n1)",
		"enc(n2,n1)": "enc(n2,n1)", "sig(n2,n1)": "sig(n2,n1)", "pair(n2,n1)": "pair(n2,n1)", "dh(n1,n2)": "dh(n1,n2)",
		// The lesser one is the lesser text, by bytes, not the lesser Name or kind.
		"dh(n2,n1)": "dh(n1,n2)", "dh(n2,n10)": "dh(n10,n2)", "dh(n9,n1000)": "dh(n1000,n9)", "dh(n10,n1)": "dh(n1,n10)", "dh(pub(n1),n2)": "dh(n2,pub(n1))", "dh(n1,h(n1))": "dh(h(n1),n1)", "dh(pub(n1),pair(n1,n1))": "dh(pair(n1,n1),pub(n1))",
		"dh(sig(n1,n1),enc(n1,n1))": "dh(enc(n1,n1),sig(n1,n1))", "dh(kem(n1,n1),ct(n1,n1))": "dh(ct(n1,n1),kem(n1,n1))", "dh(n1,dh(n3,n2))": "dh(dh(n2,n3),n1)", "dh(pub(n1),pub(n01))": "dh(pub(n1),pub(n1))",
		"dh(dh(n4,n3),dh(n2,n1))": "dh(dh(n1,n2),dh(n3,n4))", "dh(dh(n3,n1),dh(n2,n1))": "dh(dh(n1,n2),dh(n1,n3))",
		"pair(dh(n2,n1),h(dh(n3,n2)))": "pair(dh(n1,n2),h(dh(n2,n3)))", "dh(h(n1,n2),h(n1))": "dh(h(n1),h(n1,n2))", "dh(pub(n2),pub(n10))": "dh(pub(n10),pub(n2))",
	} {
		is(t, "Text of "+s, term.Text(one(s)), wanted)
	}
	is(t, "Text of one that is deep", term.Text(tower(100, api.TPub, 0)), strings.Repeat("pub(", 99)+"n1"+strings.Repeat(")", 99))
}
