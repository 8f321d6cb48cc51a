// Package wire is layer 1: see shared/doc/01-wire.md.
package wire

import (
	"iter"

	"wayside/api"
)

// base is that of a number's digits; a byte with base more says that others follow.
const base = 128

// Number is P1.1.
func Number(n int) (string, api.Errno) {
	if !may(n) {
		return "", api.ErrArg
	}
	return string(lay(nil, n)), api.OK
}

// Text is P1.1.
func Text(s string) (string, api.Errno) {
	if len(s) > api.MaxText {
		return "", api.ErrLimit
	}
	return string(lay(nil, len(s))) + s, api.OK
}

// Numbers is P1.1.
func Numbers(l []int) (string, api.Errno) {
	if len(l) > api.MaxText {
		return "", api.ErrLimit
	}
	b := lay(nil, len(l))
	for _, n := range l {
		if !may(n) {
			return "", api.ErrArg
		}
		b = lay(b, n)
	}
	return string(b), api.OK
}

// ReadNumber is P1.2.
func ReadNumber(s string, at int) (int, int, bool) {
	r := &reader{s, at}
	return read(r, r.number)
}

// ReadText is P1.2.
func ReadText(s string, at int) (string, int, bool) {
	r := &reader{s, at}
	return read(r, r.text)
}

// ReadNumbers is P1.2.
func ReadNumbers(s string, at int) ([]int, int, bool) {
	r := &reader{s, at}
	return read(r, r.numbers)
}

func may(n int) bool { return n >= 0 && n <= api.MaxNumber }

func lay(b []byte, n int) []byte {
	for d := range digits(n) {
		b = append(b, d)
	}
	return b
}

// digits tells a number's bytes, the lowest one first.
func digits(n int) iter.Seq[byte] {
	return func(yield func(byte) bool) {
		left := n
		for left >= base {
			if !yield(byte(left%base + base)) {
				return
			}
			left /= base
		}
		yield(byte(left))
	}
}

// reader stands at a place of s; its parts go on to the place behind what they read.
type reader struct {
	s  string
	at int
}

// read tells one part of what stands where r is, and the place behind it.
func read[T any](r *reader, part func() (T, bool)) (T, int, bool) {
	var none T
	if r.at < 0 || r.at > len(r.s) {
		return none, 0, false
	}
	x, ok := part()
	if !ok {
		return none, 0, false
	}
	return x, r.at, true
}

func (r *reader) number() (int, bool) {
	n, worth := 0, 1
	for r.at < len(r.s) && worth <= api.MaxNumber {
		b := int(r.s[r.at])
		r.at++
		n += b % base * worth
		if b < base {
			// A last digit of 0 could be left out: then there are fewer digits.
			return n, may(n) && (b > 0 || worth == 1)
		}
		worth *= base
	}
	return 0, false
}

func (r *reader) text() (string, bool) {
	n, ok := r.number()
	if !ok || n > api.MaxText || n > len(r.s)-r.at {
		return "", false
	}
	s := r.s[r.at : r.at+n]
	r.at += n
	return s, true
}

func (r *reader) numbers() ([]int, bool) {
	many, ok := r.number()
	if !ok || many > api.MaxText {
		return nil, false
	}
	l := make([]int, 0, many)
	for len(l) < many {
		n, ok := r.number()
		if !ok {
			return nil, false
		}
		l = append(l, n)
	}
	return l, true
}
