package term_test

import (
	"fmt"
	"math/rand"
	"strings"
	"testing"

	"missive/api"
	"missive/term"
)

// worlds is all that there are: the place of one is 1 of DH and 2 of Kem that is broken.
func worlds() []term.World {
	return []term.World{{}, {DH: true}, {Kem: true}, {DH: true, Kem: true}}
}

// P17.2: Opens

func TestOpens(t *testing.T) {
	for known, wanted := range map[string]string{
		"":                     "",
		"n1":                   "n1",
		"n2 n1 n2 pub(n1) n1":  "n2 n1 pub(n1)",
		"pair(n2,n1)":          "pair(n2,n1) n2 n1",
		"pair(n1,n1)":          "pair(n1,n1) n1",
		"sig(n1,n2)":           "sig(n1,n2) n2",
		"enc(n1,n2)":           "enc(n1,n2)",
		"enc(n1,n2) n1":        "enc(n1,n2) n1 n2",
		"enc(n1,n2) n2":        "enc(n1,n2) n2",
		"h(n1,n2) pub(n1)":     "h(n1,n2) pub(n1)",
		"dh(n1,n2) kem(n1,n2)": "dh(n1,n2) kem(n1,n2)",
		"ct(n1,n2) n1":         "ct(n1,n2) n1",
		// Known's first, each once whichever way a TDH stands there.
		"dh(n2,n1) dh(n1,n2)":                         "dh(n2,n1)",
		"pair(dh(n1,n2),n3) dh(n2,n1)":                "pair(dh(n1,n2),n3) dh(n2,n1) n3",
		"enc(dh(n1,n2),n3) dh(n2,n1)":                 "enc(dh(n1,n2),n3) dh(n2,n1) n3",
		"h(dh(n2,n1)) pair(h(dh(n1,n2)),pub(n1)) n3":  "h(dh(n2,n1)) pair(h(dh(n1,n2)),pub(n1)) n3 pub(n1)",
		"pair(n1,pair(n2,pair(n3,n4))) pair(n5,n6)":   "pair(n1,pair(n2,pair(n3,n4))) pair(n5,n6) n1 pair(n2,pair(n3,n4)) n5 n6 n2 pair(n3,n4) n3 n4",
		"pair(sig(n1,enc(n2,n3)),n2)":                 "pair(sig(n1,enc(n2,n3)),n2) sig(n1,enc(n2,n3)) n2 enc(n2,n3) n3",
		"sig(n1,sig(n2,pair(n3,n3))) pair(n5,n3)":     "sig(n1,sig(n2,pair(n3,n3))) pair(n5,n3) sig(n2,pair(n3,n3)) n5 n3 pair(n3,n3)",
		"enc(n1,n2) enc(n2,n3) enc(n3,n4) enc(n5,n6)": "enc(n1,n2) enc(n2,n3) enc(n3,n4) enc(n5,n6)",
		// What is new within a round is not known in it, though it is listed.
		"pair(n1,n2) enc(n1,n3) pair(n4,n5)":         "pair(n1,n2) enc(n1,n3) pair(n4,n5) n1 n2 n4 n5 n3",
		"n1 enc(n1,n2) enc(n2,n3) enc(n1,n4)":        "n1 enc(n1,n2) enc(n2,n3) enc(n1,n4) n2 n4 n3",
		"sig(n9,n1) enc(pub(n1),n2) sig(n9,n3)":      "sig(n9,n1) enc(pub(n1),n2) sig(n9,n3) n1 n3 n2",
		"pair(n1,n2) enc(pair(n1,n2),n3) enc(n3,n4)": "pair(n1,n2) enc(pair(n1,n2),n3) enc(n3,n4) n1 n2 n3 n4",
		// A round goes in the list's order, and not in that in which the keys came.
		"enc(n1,n11) enc(n2,n12) pair(n2,n1)":         "enc(n1,n11) enc(n2,n12) pair(n2,n1) n2 n1 n11 n12",
		"enc(n1,n11) pair(n1,pair(n2,n3)) enc(n2,n4)": "enc(n1,n11) pair(n1,pair(n2,n3)) enc(n2,n4) n1 pair(n2,n3) n11 n2 n3 n4",
		"enc(n3,n2) enc(n2,n1) n3":                    "enc(n3,n2) enc(n2,n1) n3 n2 n1",
		"enc(n2,n1) enc(n3,n2) n3":                    "enc(n2,n1) enc(n3,n2) n3 n2 n1",
		"enc(n2,n1) enc(n3,n2) enc(n3,n1) n3":         "enc(n2,n1) enc(n3,n2) enc(n3,n1) n3 n2 n1",
		// A key that is built.
		"enc(h(n1,n2),n3) n2 n1":                                        "enc(h(n1,n2),n3) n2 n1 n3",
		"enc(h(dh(n1,n2),kem(n4,n5)),n3) n2 pub(n1) pub(n4)":            "enc(h(dh(n1,n2),kem(n4,n5)),n3) n2 pub(n1) pub(n4)",
		"enc(h(dh(n1,n2),kem(n4,n5)),n3) n2 pub(n1) pub(n4) sig(n9,n5)": "enc(h(dh(n1,n2),kem(n4,n5)),n3) n2 pub(n1) pub(n4) sig(n9,n5) n5 n3",
		"enc(enc(n1,n2),n3) n1 n2":                                      "enc(enc(n1,n2),n3) n1 n2 n3",
		"enc(sig(n1,n2),n3) sig(n1,n2)":                                 "enc(sig(n1,n2),n3) sig(n1,n2) n3 n2",
		"enc(sig(n1,n2),n3) n2":                                         "enc(sig(n1,n2),n3) n2",
	} {
		is(t, "Opens of "+known, term.World{}.Opens(row(known)), row(wanted))
	}
}

// What is broken opens more, or nothing.
func TestOpensBroken(t *testing.T) {
	for known, wanted := range map[string][]string{
		"enc(dh(n1,n2),n3) pub(n1) pub(n2)":    {"", "n3", "", "n3"},
		"enc(kem(n1,n2),n3) ct(n1,n2)":         {"", "", "n3", "n3"},
		"enc(kem(n1,n2),n3) ct(n1,n2) pub(n1)": {"", "", "n3", "n3"},
		"enc(kem(n1,n2),enc(dh(n4,n5),n3)) pair(ct(n1,n2),pair(pub(n5),pub(n4)))": {
			"ct(n1,n2) pair(pub(n5),pub(n4)) pub(n5) pub(n4)",
			"ct(n1,n2) pair(pub(n5),pub(n4)) pub(n5) pub(n4)",
			"ct(n1,n2) pair(pub(n5),pub(n4)) enc(dh(n4,n5),n3) pub(n5) pub(n4)",
			"ct(n1,n2) pair(pub(n5),pub(n4)) enc(dh(n4,n5),n3) pub(n5) pub(n4) n3"},
	} {
		for i, w := range worlds() {
			is(t, fmt.Sprint("Opens of ", known, " in ", w), w.Opens(row(known)), row(known+" "+wanted[i]))
		}
	}
}

// A row of keys, each sealed with the one ahead of it, in whatever order: one more in each round.
func TestOpensRow(t *testing.T) {
	for seed := range int64(4) {
		r := rand.New(rand.NewSource(seed))
		known := row("n0")
		var wanted []string
		for _, i := range r.Perm(300) {
			known = append(known, of(api.TEnc, n(i), n(i+1)))
		}
		for i := range 300 {
			wanted = append(wanted, fmt.Sprint("n", i+1))
		}
		got := term.World{}.Opens(known)
		is(t, "Opens of a row", write(got[len(known):]), strings.Join(wanted, " "))
		is(t, "Knows of a row", []bool{term.World{}.Knows(known, n(300)), term.World{}.Knows(known[1:], n(300)), term.World{}.Knows(known, n(301))}, []bool{true, false, false})
	}
}

// P17.2: Knows

// bits is the places of those that a number of a subset tells.
func bits(l []api.Term, subset int) (out []api.Term, in func(place int) bool) {
	for i, x := range l {
		if subset>>i&1 == 1 {
			out = append(out, x)
		}
	}
	return out, func(place int) bool { return subset>>place&1 == 1 }
}

// Each subset of what could build them, in each world, against the chapter's words.
func TestBuilding(t *testing.T) {
	l := row("n1 n2 pub(n1) pub(n2) dh(n2,n1) kem(n1,n2) ct(n1,n2)")
	for subset := range 1 << len(l) {
		known, in := bits(l, subset)
		for _, w := range worlds() {
			a, b := in(0), in(1)
			pubA, pubB := in(2) || a, in(3) || b
			ct := in(6) || b && pubA
			for s, wanted := range map[string]bool{
				"n1":                             a,
				"n2":                             b,
				"n3":                             false,
				"pub(n1)":                        pubA,
				"pub(n2)":                        pubB,
				"dh(n1,n2)":                      in(4) || a && pubB || b && pubA || w.DH && pubA && pubB,
				"dh(n2,n1)":                      in(4) || a && pubB || b && pubA || w.DH && pubA && pubB,
				"dh(n1,n1)":                      a || w.DH && pubA,
				"ct(n1,n2)":                      ct,
				"ct(n2,n1)":                      a && pubB,
				"kem(n1,n2)":                     in(5) || b && pubA || a && ct || w.Kem && ct,
				"kem(n2,n1)":                     a && pubB,
				"pair(n1,n2)":                    a && b,
				"enc(n2,n1)":                     a && b,
				"sig(n1,n2)":                     a && b,
				"h(n1)":                          a,
				"h(n2,n1,n2)":                    a && b,
				"pub(pub(n2))":                   pubB,
				"h(pub(n1),dh(n1,n2),ct(n1,n2))": pubA && ct && (in(4) || a && pubB || b && pubA || w.DH && pubA && pubB),
			} {
				if got := w.Knows(known, one(s)); got != wanted {
					t.Errorf("Knows of %s and %s in %v: %v", write(known), s, w, got)
				}
			}
		}
	}
}

// The kinds that are built of all their kids, with one of them wanting.
func TestBuildingOfAll(t *testing.T) {
	for _, kind := range []int{api.TPub, api.THash, api.TEnc, api.TSign, api.TPair} {
		_, most := kidsOf(kind)
		var kids []api.Term
		for i := range most {
			kids = append(kids, n(i+1))
		}
		x := of(kind, kids...)
		is(t, "Knows of all", term.World{}.Knows(kids, x), true)
		is(t, "Knows of itself", term.World{}.Knows([]api.Term{x}, x), true)
		for i := range most {
			some := append(append([]api.Term{n(0)}, kids[:i]...), kids[i+1:]...)
			for _, w := range worlds() {
				is(t, fmt.Sprintf("Knows of the kind %d without the kid %d", kind, i), w.Knows(some, x), false)
			}
		}
	}
}

// What is known by opening builds on, however deep.
func TestKnowsDeep(t *testing.T) {
	var w term.World
	for s, wanted := range map[string]bool{
		"h(n1,pub(n2)):pair(n1,sig(n9,n2))":                          true,
		"h(n1,pub(n2)):pair(n1,sig(n2,n9))":                          false,
		"kem(n1,n2):pair(pub(n1),n2)":                                true,
		"kem(n1,n2):pair(pub(n1),ct(n1,n2))":                         false,
		"dh(h(n1,n2),n3):pair(n1,n2) pub(n3)":                        true,
		"dh(h(n1,n2),n3):pair(n1,n2) h(n3)":                          false,
		"dh(h(n1,n2),n3):pub(h(n1,n2)) n3":                           true,
		"dh(h(n1,n2),n3):pub(h(n2,n1)) n3":                           false,
		"kem(h(n1,n2),n3):n1 n2 ct(h(n1,n2),n3)":                     true,
		"kem(h(n1,n2),n3):pub(h(n1,n2)) ct(h(n1,n2),n3)":             false,
		"n4:enc(h(dh(n1,n2),kem(n3,n5)),n4) n1 pub(n2) n3 ct(n3,n5)": true,
		"n4:enc(h(dh(n1,n2),kem(n3,n5)),n4) n1 pub(n2) ct(n3,n5)":    false,
		"n4:enc(dh(n1,n2),n4) pair(dh(n2,n1),n7)":                    true,
		"n1:h(n1)":                false,
		"n1:pub(n1)":              false,
		"n1:dh(n1,n2) n2":         false,
		"n1:kem(n1,n2) ct(n1,n2)": false,
		"n2:kem(n1,n2) n1":        false,
		"n1:enc(n1,n2) n2":        false,
		"n1:sig(n1,n2) n2":        false,
		"pub(n1):sig(n1,n2)":      false,
		"enc(n1,n2):n1":           false,
	} {
		what, known, _ := strings.Cut(s, ":")
		is(t, "Knows of "+s, w.Knows(row(known), one(what)), wanted)
	}
	for kind := api.TPub; kind <= api.TKinds; kind++ {
		x := tower(100, kind, 0)
		is(t, fmt.Sprint("Knows of a deep one of the kind ", kind), w.Knows(row("n1 n2"), x), true)
		// It ends, though each step down may be asked for in several ways.
		for _, w := range worlds() {
			is(t, fmt.Sprint("Knows of a deep one of the kind ", kind, " with its atom unknown"), w.Knows(row("n2"), x), false)
			is(t, "Opens of one sealed with it", len(w.Opens([]api.Term{of(api.TEnc, x.Kids[0], n(3)), n(2)})), 2)
		}
	}
	is(t, "Knows of a great one", []bool{w.Knows(row("n1"), bush(5000)), w.Knows(row("n2"), bush(5000)), w.Knows(nil, bush(5000))}, []bool{true, false, false})
}

// P17.2: nothing known

func TestNothingKnown(t *testing.T) {
	for _, w := range worlds() {
		for kind := api.TAtom; kind <= api.TKinds; kind++ {
			least, _ := kidsOf(kind)
			is(t, "Knows of none", w.Knows(nil, of(kind, same(least, n(1))...)), false)
		}
		is(t, "Opens of none", [][]api.Term{w.Opens(nil), w.Opens([]api.Term{})}, [][]api.Term{nil, nil})
	}
}

// The chapter's Examples and Ways.

func TestKnowsHandedOn(t *testing.T) {
	ask := func(f func(known []api.Term, t api.Term) bool) []bool {
		share := one("dh(n1,n2)")
		return []bool{f(row("n1 pub(n2)"), share), f(row("pub(n1) pub(n2)"), share)}
	}
	by := term.World.Knows
	for i, w := range worlds() {
		broken := i&1 == 1
		is(t, "the method value", ask(w.Knows), []bool{true, broken})
		is(t, "the method expression", by(w, row("pub(n2) pub(n1)"), one("dh(n1,n2)")), broken)
	}
	var w term.World
	f := w.Knows
	w.DH = true
	is(t, "a method value of the world as it was", ask(f), []bool{true, false})
}
