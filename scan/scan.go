// Package scan reads bytes part by part. What is not there is thrown, and caught where the whole is read: so no part asks another one whether it was there.
package scan

import "wayside/wire"

// Reader stands at a place of bytes; each part that it reads takes it to the place behind that.
type Reader struct {
	s  string
	at int
}

// missing is thrown, if what is needed is not there.
type missing struct{}

// Need throws, if what is needed is not so.
func Need(ok bool) {
	if !ok {
		panic(missing{})
	}
}

// Whole tells what read reads of s, and true, if that is all of it; zero and false, if read throws, or something is left.
func Whole[T any](s string, read func(*Reader) T) (x T, ok bool) {
	defer func() {
		if recover() != nil {
			var none T
			x, ok = none, false
		}
	}()
	r := &Reader{s: s}
	x = read(r)
	Need(r.at == len(s))
	return x, true
}

// Mark reads bytes that have to be these.
func (r *Reader) Mark(s string) {
	end := r.at + len(s)
	Need(end <= len(r.s) && r.s[r.at:end] == s)
	r.at = end
}

// Number reads a number, which must not be above most.
func (r *Reader) Number(most int) int {
	n, next, ok := wire.ReadNumber(r.s, r.at)
	Need(ok && n <= most)
	r.at = next
	return n
}

// Text reads a text.
func (r *Reader) Text() string {
	s, next, ok := wire.ReadText(r.s, r.at)
	Need(ok)
	r.at = next
	return s
}

// Row reads a row of numbers.
func (r *Reader) Row() []int {
	l, next, ok := wire.ReadNumbers(r.s, r.at)
	Need(ok)
	r.at = next
	return l
}
