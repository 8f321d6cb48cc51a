package mail_test

import (
	"slices"
	"testing"

	"wayside/api"
	"wayside/mail"
	"wayside/part"
	"wayside/sample"
)

const least, greatest = -1 << 63, 1<<63 - 1

// some are messages that may be, many of them of the same keys.
func some(seed, many int) []api.Mail {
	r := sample.New(seed)
	var l []api.Mail
	for range many {
		l = append(l, sample.Mail(r.Below(3), r.Below(2), r.Below(12), r.Below(201)))
	}
	return l
}

// wrong are messages that may not be.
func wrong() []api.Mail {
	return []api.Mail{
		sample.Mail(-1, 0, 0, 0), sample.Mail(1001, 0, 0, 0), sample.Mail(0, -1, 0, 0), sample.Mail(0, 2, 0, 0), sample.Mail(0, 0, -1, 0), sample.Mail(0, 0, 200, 0),
		sample.Mail(0, 0, 0, -1), sample.Mail(0, 0, 0, 201), sample.Mail(least, least, least, least), sample.Mail(greatest, greatest, greatest, greatest),
	}
}

func TestP16_1Check(t *testing.T) {
	for i, l := range [][]api.Mail{nil, {sample.Mail(0, 0, 0, 0)}, {sample.Mail(1000, 1, 199, 200)}, some(1, 5000)} {
		if !mail.Check(l) {
			t.Errorf("%d may be", i)
		}
	}
	for _, m := range wrong() {
		if mail.Check([]api.Mail{m}) || mail.Check([]api.Mail{{}, m, {}}) {
			t.Errorf("%v may not be", m)
		}
	}
}

func TestP16_1Combine(t *testing.T) {
	l := mail.Combine([]api.Mail{sample.Mail(0, 0, 5, 3), sample.Mail(0, 0, 2, 9), sample.Mail(0, 0, 5, 1)})
	if !slices.Equal(l, []api.Mail{sample.Mail(0, 0, 2, 9), sample.Mail(0, 0, 5, 1)}) {
		t.Errorf("%v", l)
	}
	if l := mail.Combine(nil); len(l) != 0 {
		t.Errorf("%v", l)
	}
	odd := []api.Mail{sample.Mail(0, 0, 1, 0), sample.Mail(greatest, 0, 0, least), sample.Mail(0, -7, 0, 1), sample.Mail(0, -7, 0, greatest), sample.Mail(least, 9, 9, 0), sample.Mail(0, -7, 0, -1)}
	want := []api.Mail{sample.Mail(least, 9, 9, 0), sample.Mail(0, -7, 0, -1), sample.Mail(0, 0, 1, 0), sample.Mail(greatest, 0, 0, least)}
	if l := mail.Combine(odd); !slices.Equal(l, want) {
		t.Errorf("%v", l)
	}
	rise := []api.Mail{sample.Mail(1, 0, 0, 1), sample.Mail(0, 1, 0, 2), sample.Mail(0, 0, 9, 3), sample.Mail(0, 0, 8, 4)}
	slices.Reverse(rise)
	if l := mail.Combine(rise); !slices.Equal(l, rise) {
		t.Errorf("%v", l)
	}
}

func TestP16_2Split(t *testing.T) {
	l := some(2, 200)
	for workers := 1; workers <= 16; workers++ {
		want := make([][]api.Mail, workers)
		for _, m := range l {
			home, _ := part.Home(m.Key.V, workers)
			want[home] = append(want[home], m)
		}
		if got, e := mail.Split(l, workers); !slices.EqualFunc(got, want, slices.Equal[[]api.Mail]) || e != api.OK {
			t.Errorf("%d: %v, %d", workers, got, e)
		}
	}
	if got, e := mail.Split(nil, 3); len(got) != 3 || e != api.OK {
		t.Errorf("%v, %d", got, e)
	}
	for _, workers := range []int{0, -1, 17, least, greatest} {
		if got, e := mail.Split(l, workers); got != nil || e != api.ErrArg {
			t.Errorf("%d: %v, %d", workers, got, e)
		}
	}
	for _, m := range wrong() {
		if got, e := mail.Split([]api.Mail{{}, m}, 2); got != nil || e != api.ErrArg {
			t.Errorf("%v: %v, %d", m, got, e)
		}
	}
}

func TestP16_3Print(t *testing.T) {
	if s, e := mail.Print([]api.Mail{sample.Mail(300, 1, 199, 200), sample.Mail(0, 0, 2, 9)}); s != "\x02\xac\x02\x01\xc7\x01\xc8\x01\x00\x00\x02\x09" || e != api.OK {
		t.Errorf("%q, %d", s, e)
	}
	if s, e := mail.Print(nil); s != "\x00" || e != api.OK {
		t.Errorf("%q, %d", s, e)
	}
	if s, e := mail.Print(make([]api.Mail, 1000)); len(s) != 4002 || e != api.OK {
		t.Errorf("%d bytes, %d", len(s), e)
	}
	long := make([]api.Mail, 1001)
	if s, e := mail.Print(long); s != "" || e != api.ErrLimit {
		t.Errorf("%q, %d", s, e)
	}
	long[3].D = -1
	if s, e := mail.Print(long); s != "" || e != api.ErrLimit {
		t.Errorf("%q, %d", s, e)
	}
	for _, m := range wrong() {
		if s, e := mail.Print([]api.Mail{{}, m}); s != "" || e != api.ErrArg {
			t.Errorf("%v: %q, %d", m, s, e)
		}
	}
}

func TestP16_3Parse(t *testing.T) {
	whole, _ := mail.Print(some(3, 20))
	for n := range len(whole) {
		if l, e := mail.Parse(whole[:n]); len(l) != 0 || e != api.ErrFrame {
			t.Errorf("the first %d bytes: %v, %d", n, l, e)
		}
	}
	thousand, _ := mail.Print(make([]api.Mail, 1000))
	for _, s := range []string{
		"", whole + "\x00", "\x01", "\x80\x00", "\x01\x00\x00\x00\x80\x00", "\xff\xff\xff\xff\x07", "\x00\x00",
		"\x01\xe9\x07\x00\x00\x00", "\x01\x00\x02\x00\x00", "\x01\x00\x00\xc8\x01\x00", "\x01\x00\x00\x00\xc9\x01",
		"\xe9" + thousand[1:] + "\x00\x00\x00\x00",
	} {
		if l, e := mail.Parse(s); len(l) != 0 || e != api.ErrFrame {
			t.Errorf("%.20q: %d messages, %d", s, len(l), e)
		}
	}
}

func TestP16_4WhatFollows(t *testing.T) {
	for seed := range 20 {
		l := some(seed, 10*seed)
		once := mail.Combine(l)
		if twice := mail.Combine(once); !slices.Equal(twice, once) {
			t.Errorf("%d: Combine twice", seed)
		}
		turned := slices.Clone(l)
		slices.Reverse(turned)
		if other := mail.Combine(turned); !slices.Equal(other, once) {
			t.Errorf("%d: order plays a part", seed)
		}
		parts, _ := mail.Split(l, 1+seed%16)
		var together []api.Mail
		for _, p := range parts {
			together = append(together, mail.Combine(p)...)
		}
		if other := mail.Combine(together); !slices.Equal(other, once) || len(together) != len(once) {
			t.Errorf("%d: split, combined and put together: %v", seed, other)
		}
		s, _ := mail.Print(l)
		if p, e := mail.Parse(s); !slices.Equal(p, l) || e != api.OK {
			t.Errorf("%d: %v is parsed as %v, %d", seed, l, p, e)
		}
	}
}

func TestR2NothingIsChanged(t *testing.T) {
	l := some(4, 9)
	before := slices.Clone(l)
	mail.Combine(l)[0].D = -9
	parts, _ := mail.Split(l, 1)
	parts[0][0].D = -9
	_ = append(parts[0][:1], sample.Mail(9, 9, 9, 9))
	if !slices.Equal(l, before) {
		t.Errorf("%v", l)
	}
}
