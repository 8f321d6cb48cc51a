package turn_test

import (
	"slices"
	"testing"

	"wayside/api"
	"wayside/sample"
	"wayside/turn"
)

const least, greatest = -1 << 63, 1<<63 - 1

func message(v int) api.Mail { return api.Mail{Key: api.Key{Slot: v % 3, V: v}, D: v * 7 % 5} }

func messages(many int) []api.Mail {
	var l []api.Mail
	for v := range many {
		l = append(l, message(v))
	}
	return l
}

func TestP17_1Pick(t *testing.T) {
	for _, x := range [][3]int{
		{3, -1, 2}, {3, 7, 1}, {3, 0, 0}, {3, -3, 0}, {3, -4, 2}, {1, 5, 0}, {1, -5, 0}, {7, greatest, 0}, {7, least, 6}, {greatest, -1, greatest - 1},
		{greatest, least, greatest - 1}, {5, 4, 4}, {5, 5, 0},
	} {
		if n, ok := turn.Pick(x[0], x[1]); n != x[2] || !ok {
			t.Errorf("%v: %d, %v", x, n, ok)
		}
	}
	for _, n := range []int{0, -1, least} {
		if p, ok := turn.Pick(n, 5); p != 0 || ok {
			t.Errorf("%d: %d, %v", n, p, ok)
		}
	}
}

func TestP17_2Order(t *testing.T) {
	for i, x := range []struct {
		n           int
		picks, want []int
	}{
		{3, []int{2, 1}, []int{2, 1, 0}}, {3, []int{-1}, []int{2, 0, 1}}, {3, nil, []int{0, 1, 2}}, {0, nil, nil}, {0, []int{4}, nil}, {1, []int{4, 4}, []int{0}},
		{4, []int{1, 1, 1, 9, 9}, []int{1, 2, 3, 0}}, {5, []int{0, 5, least, greatest}, []int{0, 2, 3, 4, 1}}, {3, []int{0, 1}, []int{0, 2, 1}},
	} {
		if l, e := turn.Order(x.n, x.picks); !slices.Equal(l, x.want) || e != api.OK {
			t.Errorf("%d: %v, %d", i, l, e)
		}
	}
	if l, e := turn.Order(1000, nil); len(l) != 1000 || l[999] != 999 || e != api.OK {
		t.Errorf("%v, %d", l, e)
	}
	for _, n := range []int{-1, 1001, least, greatest} {
		if l, e := turn.Order(n, []int{1}); len(l) != 0 || e != api.ErrArg {
			t.Errorf("%d: %v, %d", n, l, e)
		}
	}
}

func TestP17_2Mails(t *testing.T) {
	l := messages(3)
	if got := turn.Mails(l, []int{2, 1}); !slices.Equal(got, []api.Mail{l[2], l[1], l[0]}) {
		t.Errorf("%v", got)
	}
	if got := turn.Mails(nil, []int{2, 1}); len(got) != 0 {
		t.Errorf("%v", got)
	}
	alike := []api.Mail{l[1], l[1], l[2], l[1]}
	if got := turn.Mails(alike, []int{2}); !slices.Equal(got, []api.Mail{l[2], l[1], l[1], l[1]}) {
		t.Errorf("%v", got)
	}
	if got := turn.Mails(messages(3000), []int{-1}); len(got) != 3000 || got[0] != message(2999) || got[2999] != message(2998) {
		t.Errorf("%d", len(got))
	}
	for seed := range 20 {
		r := sample.New(seed)
		l, picks := messages(r.Below(30)), r.Picks(r.Below(40))
		at, _ := turn.Order(len(l), picks)
		got := turn.Mails(l, picks)
		for i := range at {
			if got[i] != l[at[i]] {
				t.Errorf("%d: not in the order of the numbers", seed)
			}
		}
	}
}

func TestP17_3Deal(t *testing.T) {
	picks := []int{5, -1, 7, 7, greatest}
	for i, x := range []struct {
		parts int
		want  [][]int
	}{{1, [][]int{picks}}, {2, [][]int{{5, 7, greatest}, {-1, 7}}}, {3, [][]int{{5, 7}, {-1, greatest}, {7}}}, {7, [][]int{{5}, {-1}, {7}, {7}, {greatest}, nil, nil}}, {0, nil}, {-1, nil}, {101, nil}, {least, nil}, {greatest, nil}} {
		if got := turn.Deal(picks, x.parts); !slices.EqualFunc(got, x.want, slices.Equal[[]int]) {
			t.Errorf("%d: %v", i, got)
		}
	}
	if got := turn.Deal(nil, 100); len(got) != 100 {
		t.Errorf("%v", got)
	}
}

func TestP17_4WhatFollows(t *testing.T) {
	for seed := range 30 {
		r := sample.New(seed)
		n := r.Below(40)
		picks := r.Picks(r.Below(50))
		l, _ := turn.Order(n, picks)
		more := slices.Clone(picks)
		for i := range more {
			if i < n {
				more[i] += (n - i) * (r.Below(9) - 4)
			}
		}
		if other, _ := turn.Order(n, more); !slices.Equal(other, l) {
			t.Errorf("%d: picks that are as many more: %v, not %v", seed, other, l)
		}
		mails := messages(n)
		ordered := turn.Mails(mails, picks)
		slices.SortFunc(ordered, func(a, b api.Mail) int { return a.Key.V - b.Key.V })
		if !slices.Equal(ordered, mails) || !slices.Equal(turn.Mails(mails, nil), mails) {
			t.Errorf("%d: not the same things", seed)
		}
		slices.Sort(l)
		if without, _ := turn.Order(n, nil); !slices.Equal(l, without) {
			t.Errorf("%d: %v, not each number once", seed, l)
		}
	}
}

func TestR2NothingShared(t *testing.T) {
	l, picks := messages(4), []int{1, 2, 3}
	for _, p := range [][]int{nil, picks} {
		turn.Mails(l, p)[0].D = -9
		_ = append(turn.Mails(l, p), message(9))
	}
	dealt := turn.Deal(picks, 1)
	dealt[0][0] = 9
	turn.Order(4, picks)
	if !slices.Equal(l, messages(4)) || !slices.Equal(picks, []int{1, 2, 3}) {
		t.Errorf("%v, %v", l, picks)
	}
}
