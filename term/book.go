package term

import "missive/api"

// form is a term by the numbers of its kids; terms that are Same have one form.
type form struct {
	kind, name int
	kids       [maxKids]int // nobody where there is none
}

// nobody is the number of no term. It counts as had, so that all kids of a form may be asked for, whatever its kind.
const nobody = 0

// fact is what is kept of a number.
type fact struct {
	form
	place int  // in the list, from 1 on; 0, if it is not there
	had   bool // known or built, and so for ever
	asked int  // how many were known when it was asked for last
}

// item is a term with its number, and its kids likewise.
type item struct {
	term   api.Term
	number int
	kids   []item
}

// book is terms by numbers, and a list in which each number stands once.
type book struct {
	world   World
	numbers map[form]int
	facts   []fact // by number
	list    []item
	known   int // so many of the list, from its beginning on, are known
}

// newBook is an empty one.
func newBook(w World) *book {
	return &book{world: w, numbers: map[form]int{}, facts: []fact{nobody: {had: true}}}
}

// opened is a book whose list is all that comes of known by opening.
func opened(w World, known []api.Term) *book {
	b := newBook(w)
	for _, t := range known {
		if May(t) {
			b.put(b.enter(t))
		}
	}
	b.open()
	return b
}

// enter gives t its number, and all within.
func (b *book) enter(t api.Term) item {
	x := item{term: t}
	f := form{kind: t.Kind}
	if t.Kind == api.TAtom {
		f.name = t.Name
	}
	for i, kid := range t.Kids {
		y := b.enter(kid)
		x.kids = append(x.kids, y)
		f.kids[i] = y.number
	}
	x.number = b.number(f)
	return x
}

// number is that of f, the next one of a new f.
func (b *book) number(f form) int {
	if f.kind == api.TDH && f.kids[0] > f.kids[1] {
		f.kids[0], f.kids[1] = f.kids[1], f.kids[0]
	}
	n, ok := b.numbers[f]
	if !ok {
		n = len(b.facts)
		b.numbers[f] = n
		b.facts = append(b.facts, fact{form: f, asked: -1})
	}
	return n
}

// put lists x, if it is new, and tells whether it was.
func (b *book) put(x item) bool {
	if b.facts[x.number].place > 0 {
		return false
	}
	b.list = append(b.list, x)
	b.facts[x.number].place = len(b.list)
	return true
}

// putAll lists x and all within, each ahead of its kids. Of an x that is not new nothing within is.
func (b *book) putAll(x item) {
	if !b.put(x) {
		return
	}
	for _, kid := range x.kids {
		b.putAll(kid)
	}
}

// terms is the list in new memory.
func (b *book) terms() []api.Term {
	var out []api.Term
	for _, x := range b.list {
		out = append(out, fresh(x.term))
	}
	return out
}

// open lists what comes of the list by opening, in rounds. What was opened once gives nothing new, so a round goes through the others alone.
func (b *book) open() {
	var shut []int
	for b.known < len(b.list) {
		for i := b.known; i < len(b.list); i++ {
			shut = append(shut, i)
		}
		b.known = len(b.list)
		shut = b.round(shut)
	}
}

// round lists what is in those at these indexes of the list, and answers the indexes of those that stay shut.
func (b *book) round(shut []int) []int {
	left := shut[:0]
	for _, i := range shut {
		l, ok := b.inside(b.list[i])
		if !ok {
			left = append(left, i)
		}
		for _, x := range l {
			b.put(x)
		}
	}
	return left
}

// inside is what opening x gives; false, if its key is not known yet.
func (b *book) inside(x item) ([]item, bool) {
	switch x.term.Kind {
	case api.TPair:
		return x.kids, true
	case api.TSign:
		return x.kids[1:], true
	case api.TEnc:
		if !b.has(x.kids[0].number) {
			return nil, false
		}
		return x.kids[1:], true
	}
	return nil, true
}

// has tells whether n is known, or built of what is. What was not is asked for again once more is known, and not ahead of it: there are many ways down to the same kid.
func (b *book) has(n int) bool {
	if f := &b.facts[n]; f.had || f.asked == b.known {
		return f.had
	}
	f := b.facts[n]
	f.had = f.place > 0 && f.place <= b.known || b.builds(f.form)
	f.asked = b.known
	b.facts[n] = f
	return f.had
}

// all tells whether each of these is had.
func (b *book) all(numbers ...int) bool {
	for _, n := range numbers {
		if !b.has(n) {
			return false
		}
	}
	return true
}

// builds tells whether f is built, known or not.
func (b *book) builds(f form) bool {
	x, y := f.kids[0], f.kids[1]
	switch f.kind {
	case api.TPub, api.THash, api.TPair, api.TEnc, api.TSign:
		return b.all(f.kids[:]...)
	case api.TDH:
		return b.all(x, b.pub(y)) || b.all(y, b.pub(x)) || b.world.DH && b.all(b.pub(x), b.pub(y))
	case api.TKem:
		return b.all(y, b.pub(x)) || b.all(x, b.ct(x, y)) || b.world.Kem && b.has(b.ct(x, y))
	case api.TCt:
		return b.all(y, b.pub(x))
	}
	return false
}

// pub is the number of TPub(x).
func (b *book) pub(x int) int {
	return b.number(form{kind: api.TPub, kids: [maxKids]int{x}})
}

// ct is the number of TCt(x, y).
func (b *book) ct(x, y int) int {
	return b.number(form{kind: api.TCt, kids: [maxKids]int{x, y}})
}
