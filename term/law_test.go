package term_test

import (
	"fmt"
	"math/rand"
	"slices"
	"strings"
	"testing"

	"missive/api"
	"missive/term"
)

// P17.4, and the promises against a model: its terms are kept by a text of its own, and it goes by the document's words, one by one.

// key is a text that is one for all that are Same.
func key(x api.Term) string {
	if x.Kind == api.TAtom {
		return fmt.Sprint(x.Name)
	}
	var kids []string
	for _, y := range x.Kids {
		kids = append(kids, key(y))
	}
	if x.Kind == api.TDH {
		slices.Sort(kids)
	}
	return fmt.Sprint("[", x.Kind, " ", strings.Join(kids, " "), "]")
}

// heap is terms, each once.
type heap struct {
	l  []api.Term
	in map[string]bool
}

// add puts those that are new.
func (h *heap) add(l ...api.Term) {
	if h.in == nil {
		h.in = map[string]bool{}
	}
	for _, x := range l {
		if k := key(x); !h.in[k] {
			h.in[k] = true
			h.l = append(h.l, x)
		}
	}
}

// builds tells whether x is built of what is known.
func builds(w term.World, known map[string]bool, x api.Term) bool {
	has := func(l ...api.Term) bool {
		for _, y := range l {
			if !builds(w, known, y) {
				return false
			}
		}
		return true
	}
	if known[key(x)] {
		return true
	}
	if x.Kind == api.TAtom {
		return false
	}
	if len(x.Kids) != 2 || x.Kind >= api.THash {
		return has(x.Kids...)
	}
	a, b := x.Kids[0], x.Kids[1]
	pubA, pubB, ct := of(api.TPub, a), of(api.TPub, b), of(api.TCt, a, b)
	switch x.Kind {
	case api.TDH:
		return has(a, pubB) || has(b, pubA) || w.DH && has(pubA, pubB)
	case api.TKem:
		return has(b, pubA) || has(a, ct) || w.Kem && has(ct)
	}
	return has(b, pubA)
}

// opens is Opens, each round over all.
func opens(w term.World, known []api.Term) *heap {
	all := &heap{}
	all.add(known...)
	for before := -1; before < len(all.l); {
		before = len(all.l)
		stood := &heap{}
		stood.add(all.l...)
		for _, x := range stood.l {
			switch {
			case x.Kind == api.TPair:
				all.add(x.Kids...)
			case x.Kind == api.TSign, x.Kind == api.TEnc && builds(w, stood.in, x.Kids[0]):
				all.add(x.Kids[1])
			}
		}
	}
	return all
}

// within is x and all within.
func within(x api.Term) []api.Term {
	out := []api.Term{x}
	for _, y := range x.Kids {
		out = append(out, within(y)...)
	}
	return out
}

// universe is all that one could have to do with to know x: what stands in known and x, with the public keys and the ciphertexts that belong to it.
func universe(known []api.Term, x api.Term) *heap {
	all := &heap{}
	for _, y := range append([]api.Term{x}, known...) {
		all.add(within(y)...)
	}
	for _, y := range slices.Clone(all.l) {
		all.add(of(api.TPub, y))
		if y.Kind == api.TKem {
			all.add(of(api.TCt, y.Kids...))
		}
	}
	return all
}

// derives tells whether x is known by steps from below, opening and building in whatever order, till nothing new comes.
func derives(w term.World, known []api.Term, x api.Term) bool {
	all := universe(known, x)
	got := &heap{}
	got.add(known...)
	for before := -1; before < len(got.l); {
		before = len(got.l)
		for _, y := range all.l {
			if step(w, got.in, y) {
				got.add(y)
			}
			if !got.in[key(y)] {
				continue
			}
			switch {
			case y.Kind == api.TPair:
				got.add(y.Kids...)
			case y.Kind == api.TSign, y.Kind == api.TEnc && got.in[key(y.Kids[0])]:
				got.add(y.Kids[1])
			}
		}
	}
	return got.in[key(x)]
}

// step tells whether x is built by one step of what is there.
func step(w term.World, in map[string]bool, x api.Term) bool {
	has := func(l ...api.Term) bool {
		return !slices.ContainsFunc(l, func(y api.Term) bool { return !in[key(y)] })
	}
	switch x.Kind {
	case api.TAtom:
		return false
	case api.TDH, api.TKem, api.TCt:
		a, b := x.Kids[0], x.Kids[1]
		pubA, pubB, ct := of(api.TPub, a), of(api.TPub, b), of(api.TCt, a, b)
		return x.Kind == api.TDH && (has(a, pubB) || has(b, pubA) || w.DH && has(pubA, pubB)) ||
			x.Kind == api.TKem && (has(b, pubA) || has(a, ct) || w.Kem && has(ct)) ||
			x.Kind == api.TCt && has(b, pubA)
	}
	return has(x.Kids...)
}

// draw is a term of few atoms.
func draw(r *rand.Rand, deep int) api.Term {
	if deep < 2 || r.Intn(4) == 0 {
		return n(r.Intn(5))
	}
	kind := api.TPub + r.Intn(api.TKinds-1)
	least, most := kidsOf(kind)
	out := of(kind)
	for range least + r.Intn(min(most-least, 3)+1) {
		out.Kids = append(out.Kids, draw(r, deep-1))
	}
	return out
}

// drawRow is some that may be known: few are atoms, and many can be opened.
func drawRow(r *rand.Rand) []api.Term {
	var out []api.Term
	for range r.Intn(9) {
		switch r.Intn(3) {
		case 0:
			out = append(out, draw(r, 4))
		case 1:
			out = append(out, of([]int{api.TEnc, api.TPair, api.TSign}[r.Intn(3)], draw(r, 3), draw(r, 3)))
		case 2:
			out = append(out, draw(r, 2))
		}
	}
	return out
}

// turned is x with the kids of some a TDH turned about.
func turned(r *rand.Rand, x api.Term) api.Term {
	out := api.Term{Kind: x.Kind, Name: x.Name}
	for _, y := range x.Kids {
		out.Kids = append(out.Kids, turned(r, y))
	}
	if x.Kind == api.TDH && r.Intn(2) == 0 {
		slices.Reverse(out.Kids)
	}
	return out
}

func TestModelOpensAndKnows(t *testing.T) {
	r := rand.New(rand.NewSource(17))
	yes, built, further := 0, 0, 0
	for range 1000 {
		known, x := drawRow(r), draw(r, 4)
		for _, w := range worlds() {
			l := opens(w, known)
			got := w.Opens(known)
			if write(got) != write(l.l) {
				t.Fatalf("Opens of %s in %v:\n got %s\nwant %s", write(known), w, write(got), write(l.l))
			}
			wanted := builds(w, l.in, x)
			if wanted != derives(w, known, x) {
				t.Fatalf("both models of %s, %s in %v: %v", write(known), term.Text(x), w, wanted)
			}
			if w.Knows(known, x) != wanted || w.Knows(known, turned(r, x)) != wanted {
				t.Fatalf("Knows of %s, %s in %v: not %v", write(known), term.Text(x), w, wanted)
			}
			for _, y := range got {
				if !w.Knows(known, y) {
					t.Fatalf("Knows of %s, %s in %v: not what is listed", write(known), term.Text(y), w)
				}
			}
			if wanted {
				yes++
			}
			if wanted && !l.in[key(x)] {
				built++
			}
			if len(l.l) > len(known)+3 {
				further++
			}
		}
	}
	if yes < 400 || built < 150 || further < 250 {
		t.Errorf("the draws are too poor: %d known, %d built, %d opened", yes, built, further)
	}
}

func TestModelParts(t *testing.T) {
	r := rand.New(rand.NewSource(18))
	for range 4000 {
		x := draw(r, 5)
		all := &heap{}
		all.add(within(x)...)
		is(t, "Parts of "+term.Text(x), term.Parts(x), all.l)
		is(t, "Size of "+term.Text(x), term.Size(x), len(within(x)))
	}
}

// Same ones have one Text, unlike ones unlike.
func TestSameText(t *testing.T) {
	r := rand.New(rand.NewSource(19))
	alike := 0
	for range 30000 {
		x, y := draw(r, 3), draw(r, 3)
		if r.Intn(4) == 0 {
			y = turned(r, x)
		}
		wanted := key(x) == key(y)
		if term.Same(x, y) != wanted || (term.Text(x) == term.Text(y)) != wanted {
			t.Fatalf("Same or Text of %v, %v: not %v", x, y, wanted)
		}
		if wanted {
			alike++
		}
		back, left := read(term.Text(x))
		if left != "" || !term.Same(x, back) {
			t.Fatalf("Text of %v: %s", x, term.Text(x))
		}
	}
	if alike < 5000 || alike > 25000 {
		t.Errorf("the draws are too poor: %d alike", alike)
	}
}

// More known, or more broken, is no less known.
func TestMore(t *testing.T) {
	r := rand.New(rand.NewSource(20))
	for range 600 {
		known, more, x := drawRow(r), drawRow(r), draw(r, 4)
		most := slices.Concat(known, more)
		r.Shuffle(len(most), func(i, j int) { most[i], most[j] = most[j], most[i] })
		for i, w := range worlds() {
			for j, u := range worlds() {
				if i&j != i {
					continue
				}
				if w.Knows(known, x) && (!u.Knows(known, x) || !u.Knows(most, x)) {
					t.Fatalf("%s, %s: known in %v, not in %v, or not of %s", write(known), term.Text(x), w, u, write(most))
				}
				listed := &heap{}
				listed.add(u.Opens(most)...)
				for _, y := range w.Opens(known) {
					if !listed.in[key(y)] {
						t.Fatalf("%s: %s opens in %v, not in %v of %s", write(known), term.Text(y), w, u, write(most))
					}
				}
			}
		}
	}
}

// roomy is x with spare room behind all its kids.
func roomy(x api.Term) api.Term {
	out := api.Term{Kind: x.Kind, Name: x.Name, Kids: make([]api.Term, 0, len(x.Kids)+2)}
	for _, y := range x.Kids {
		out.Kids = append(out.Kids, roomy(y))
	}
	copy(out.Kids[:cap(out.Kids)][len(out.Kids):], []api.Term{n(77), n(78)})
	return out
}

// places is each place of memory of l and of all within, the spare room too.
func places(l []api.Term) []*api.Term {
	var out []*api.Term
	for i := range l[:cap(l)] {
		out = append(out, &l[:cap(l)][i])
		out = append(out, places(l[:cap(l)][i].Kids)...)
	}
	return out
}

// What is handed in stays as it is, its spare room too; what is answered is new memory, each list of its own.
func TestMemory(t *testing.T) {
	r := rand.New(rand.NewSource(21))
	for range 500 {
		one := roomy(draw(r, 5))
		shared := roomy(draw(r, 3))
		twice := of(api.TPair, shared, of(api.TPair, shared, one))
		known := append(make([]api.Term, 0, 20), one, twice, roomy(draw(r, 4)), twice, shared, n(-1))
		copy(known[6:20], row("n7 pub(n8)"))
		var before []api.Term
		for _, p := range places(known) {
			before = append(before, *p)
		}
		w := worlds()[r.Intn(4)]
		answers := [][]api.Term{w.Opens(known), w.Opens(known), term.Parts(twice), term.Parts(twice)}
		w.Knows(known, twice)
		for _, x := range known {
			term.May(x)
			term.Same(x, one)
			term.Size(x)
			term.Text(x)
		}
		seen := map[*api.Term]bool{}
		for i, p := range places(known) {
			seen[p] = true
			is(t, "what was handed in", *p, before[i])
		}
		for _, l := range answers {
			for _, p := range places(l) {
				if seen[p] {
					t.Fatal("an answer shares memory")
				}
				seen[p] = true
			}
		}
		is(t, "a second answer", answers[1], answers[0])
		is(t, "a second answer", answers[3], answers[2])
	}
}

// What a call was handed is not kept: it may be turned behind the call.
func TestNotKept(t *testing.T) {
	known := row("pair(n1,enc(n1,n2)) h(n3)")
	x := one("dh(n1,pub(n2))")
	w := term.World{}
	l, parts := w.Opens(known), term.Parts(x)
	known[0].Kids[1].Kids[1].Name = 9
	known[1] = n(8)
	x.Kids[1].Kids[0].Name = 9
	is(t, "Opens behind that", write(l), "pair(n1,enc(n1,n2)) h(n3) n1 enc(n1,n2) n2")
	is(t, "Parts behind that", write(parts), "dh(n1,pub(n2)) n1 pub(n2) n2")
	is(t, "Knows of the new ones", []bool{w.Knows(known, n(9)), w.Knows(known, n(2)), w.Knows(known, one("h(n3)"))}, []bool{true, false, false})
}
