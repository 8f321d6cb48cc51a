package order_test

import (
	"slices"
	"testing"

	"wayside/api"
	"wayside/graph"
	"wayside/order"
	"wayside/sample"
)

const least, greatest = -1 << 63, 1<<63 - 1

func TestP11_1By(t *testing.T) {
	for i, x := range []struct {
		g    api.Graph
		want []int
	}{
		{sample.Plain(3, 0, 1, 2, 1, 1, 0), []int{1, 0, 2}}, {sample.Plain(1), []int{0}}, {sample.Plain(4), []int{0, 1, 2, 3}},
		// A way from a place to itself leads from it, and to it.
		{sample.Plain(3, 0, 1, 2, 2), []int{2, 0, 1}}, {sample.Plain(4, 3, 2, 2, 3), []int{2, 3, 0, 1}}, {sample.Plain(3, 0, 1, 0, 2), []int{0, 1, 2}},
		{sample.Plain(3, 1, 0, 2, 0), []int{0, 1, 2}}, {sample.Plain(3, 0, 2, 1, 2), []int{2, 0, 1}},
	} {
		_, r := sample.Rows(x.g)
		if l, e := order.By(r); !slices.Equal(l, x.want) || e != api.OK {
			t.Errorf("%d: %v, %d", i, l, e)
		}
	}
	if l, e := order.By(api.Rows{}); len(l) != 0 || e != api.ErrRows {
		t.Errorf("%v, %d", l, e)
	}
	for seed := range 30 {
		g, r := sample.Rows(sample.Graph(seed, 1+5*seed, 9*seed))
		l, e := order.By(r)
		if e != api.OK || !order.Is(l, g.N) {
			t.Fatalf("%d: %v, %d", seed, l, e)
		}
		for i := 1; i < g.N; i++ {
			a, b, _ := graph.Degrees(g, l[i-1])
			c, d, _ := graph.Degrees(g, l[i])
			if a+b < c+d || a+b == c+d && l[i-1] > l[i] {
				t.Errorf("%d: %d ahead of %d", seed, l[i-1], l[i])
			}
		}
	}
}

func TestP11_1Is(t *testing.T) {
	for _, x := range []struct {
		l  []int
		n  int
		is bool
	}{
		{nil, 0, true}, {[]int{0}, 1, true}, {[]int{2, 0, 1}, 3, true}, {nil, 1, false}, {nil, -1, false}, {[]int{0}, 0, false}, {[]int{0}, -1, false},
		{[]int{1}, 1, false}, {[]int{-1}, 1, false}, {[]int{0, 0}, 2, false}, {[]int{0, 2}, 2, false}, {[]int{0, 1}, 3, false}, {[]int{0, 1, 2}, 2, false},
		{nil, greatest, false}, {nil, least, false}, {[]int{0, least, 1}, 3, false},
	} {
		if order.Is(x.l, x.n) != x.is {
			t.Errorf("%v of %d: %v", x.l, x.n, !x.is)
		}
	}
}

func TestP11_2Places(t *testing.T) {
	for _, x := range [][2][]int{{nil, nil}, {{0}, {0}}, {{2, 0, 1}, {1, 2, 0}}, {{3, 2, 1, 0}, {3, 2, 1, 0}}} {
		if l, e := order.Places(x[0]); !slices.Equal(l, x[1]) || e != api.OK {
			t.Errorf("%v: %v, %d", x[0], l, e)
		}
	}
	for _, bad := range [][]int{{1}, {-1}, {0, 0}, {0, 2}, {greatest, 0}} {
		if l, e := order.Places(bad); len(l) != 0 || e != api.ErrArg {
			t.Errorf("%v: %v, %d", bad, l, e)
		}
	}
}

func TestP11_3NthAndTurns(t *testing.T) {
	for _, x := range []struct {
		n, k int
		want []int
	}{
		{0, 0, nil}, {1, 0, []int{0}}, {3, 0, []int{0, 1, 2}}, {3, 3, []int{1, 2, 0}}, {3, 5, []int{2, 1, 0}},
		{12, 0, []int{0, 1, 2, 3, 4, 5, 6, 7, 8, 9, 10, 11}}, {12, 479001599, []int{11, 10, 9, 8, 7, 6, 5, 4, 3, 2, 1, 0}},
		{12, 1, []int{0, 1, 2, 3, 4, 5, 6, 7, 8, 9, 11, 10}},
	} {
		if l, e := order.Nth(x.n, x.k); !slices.Equal(l, x.want) || e != api.OK {
			t.Errorf("%d, %d: %v, %d", x.n, x.k, l, e)
		}
		if k, e := order.Turns(x.want); k != x.k || e != api.OK {
			t.Errorf("%v: %d, %d", x.want, k, e)
		}
	}
	for _, x := range [][2]int{{-1, 0}, {13, 0}, {0, 1}, {1, 1}, {3, 6}, {3, -1}, {12, 479001600}, {greatest, 0}, {least, 0}, {3, greatest}, {3, least}} {
		if l, e := order.Nth(x[0], x[1]); len(l) != 0 || e != api.ErrArg {
			t.Errorf("%v: %v, %d", x, l, e)
		}
	}
	thirteen := []int{0, 1, 2, 3, 4, 5, 6, 7, 8, 9, 10, 11, 12}
	for _, bad := range [][]int{{1}, {0, 0}, {-1, 0}, thirteen} {
		if k, e := order.Turns(bad); k != 0 || e != api.ErrArg {
			t.Errorf("%v: %d, %d", bad, k, e)
		}
	}
}

func TestP11_4WhatFollows(t *testing.T) {
	for n := range 7 {
		last := []int(nil)
		k := 0
		for ; ; k++ {
			l, e := order.Nth(n, k)
			if e != api.OK {
				break
			}
			if !order.Is(l, n) || k > 0 && slices.Compare(last, l) >= 0 {
				t.Errorf("%d: %v behind %v", n, l, last)
			}
			if back, e := order.Turns(l); back != k || e != api.OK {
				t.Errorf("%v: %d, %d", l, back, e)
			}
			at, _ := order.Places(l)
			if twice, _ := order.Places(at); !slices.Equal(twice, l) {
				t.Errorf("%v: Places twice: %v", l, twice)
			}
			last = l
		}
		want := 1
		for i := 2; i <= n; i++ {
			want *= i
		}
		if k != want {
			t.Errorf("%d orders of %d", k, n)
		}
	}
}

func TestR2NothingIsChanged(t *testing.T) {
	l := []int{2, 0, 1}
	at, _ := order.Places(l)
	at[0] = 9
	order.Turns(l)
	order.Is(l, 3)
	_, r := sample.Rows(sample.Plain(2, 0, 1))
	by, _ := order.By(r)
	by[0] = 9
	if again, _ := order.By(r); !slices.Equal(l, []int{2, 0, 1}) || !slices.Equal(again, []int{0, 1}) {
		t.Errorf("%v, %v", l, again)
	}
}
