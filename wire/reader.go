package wire

import (
	"missive/api"
	"missive/flat"
)

// Reader reads one thing behind the other. A zero one has no bytes, nor has a nil one; where a call panics, it stands where it stood.
type Reader struct {
	left []byte
}

// NewReader is one at the beginning of b.
func NewReader(b []byte) *Reader { return &Reader{left: flat.Cat(b)} }

// Num is the next num; it panics with ErrBad.
func (r *Reader) Num() uint64 {
	n, left := number(r.rest())
	r.pass(left)
	return n
}

// Bytes is what Writer's Bytes wrote; it panics with ErrBad, and with ErrBig of more than most.
func (r *Reader) Bytes(most int) []byte {
	b, left := limited(r.rest(), most)
	r.pass(left)
	return b
}

// List is what Writer's List wrote; it panics with ErrBad, and with ErrBig of more lists than count, or of one of more than most bytes.
func (r *Reader) List(count, most int) [][]byte {
	// Of an empty list nothing else would ask for it.
	natural(most)
	n, left := howMany(r.rest(), count)
	// The num may tell of far more than there is: no room is made ahead.
	var out [][]byte
	for range n {
		var b []byte
		b, left = limited(left, most)
		out = append(out, b)
	}
	r.pass(left)
	return out
}

// Fixed is the next n bytes; it panics with ErrBad.
func (r *Reader) Fixed(n int) []byte {
	b, left := split(r.rest(), n)
	r.pass(left)
	return b
}

// End panics with ErrBad, if something is left.
func (r *Reader) End() {
	if len(r.rest()) > 0 {
		panic(api.ErrBad)
	}
}

// Read calls f with a reader of b, and its End: the number with which either left, or OK.
func Read(b []byte, f func(r *Reader)) (e api.Errno) {
	defer func() {
		if x := recover(); x != nil {
			e = refusal(x)
		}
	}()
	r := NewReader(b)
	if f != nil {
		f(r)
	}
	r.End()
	return api.OK
}

// refusal is the number that somebody panicked with; any other panic goes on, that with OK too, which refuses nothing.
func refusal(x any) api.Errno {
	e, ok := x.(api.Errno)
	if !ok || e == api.OK {
		panic(x)
	}
	return e
}

// rest is what was not read yet.
func (r *Reader) rest() []byte {
	if r == nil {
		return nil
	}
	return r.left
}

// pass goes on to what is left.
func (r *Reader) pass(left []byte) {
	if r != nil {
		r.left = left
	}
}

// number is the num at the beginning of b, and what is left behind it; it panics with ErrBad.
func number(b []byte) (n uint64, left []byte) {
	for i, x := range b[:min(len(b), groups)] {
		n |= uint64(x%more) << (digits * i)
		if x >= more {
			continue
		}
		// A last group of 0 would be a second form of the same number, and the tenth group has room for one digit alone.
		if i > 0 && x == 0 || i == groups-1 && x > 1 {
			panic(api.ErrBad)
		}
		return n, b[i+1:]
	}
	panic(api.ErrBad)
}

// howMany is the num at the beginning of b, and what is left behind it; it panics with ErrBad, and with ErrBig, if it is above most.
func howMany(b []byte, most int) (n int, left []byte) {
	natural(most)
	all, left := number(b)
	if all > uint64(most) {
		panic(api.ErrBig)
	}
	return int(all), left
}

// limited is the Bytes at the beginning of b, and what is left behind them; it panics with ErrBad, and with ErrBig of more than most.
func limited(b []byte, most int) (out, left []byte) {
	n, left := howMany(b, most)
	return split(left, n)
}

// split is a copy of the first n bytes of b, and what is left behind them; it panics with ErrBad.
func split(b []byte, n int) (out, left []byte) {
	natural(n)
	if n > len(b) {
		panic(api.ErrBad)
	}
	return flat.Cat(b[:n]), b[n:]
}

// natural panics with ErrBad, if n is below 0.
func natural(n int) {
	if n < 0 {
		panic(api.ErrBad)
	}
}
