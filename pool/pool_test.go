package pool_test

import (
	"slices"
	"testing"

	"wayside/api"
	"wayside/pool"
	"wayside/sample"
)

const least, greatest = -1 << 63, 1<<63 - 1

func made(t *testing.T, size int) api.Pool {
	t.Helper()
	p, e := pool.New(size)
	if e != api.OK {
		t.Fatalf("New(%d): %d", size, e)
	}
	return p
}

func is(p api.Pool, size int, free ...int) bool {
	return p.Size == size && slices.Equal(p.Free, free)
}

// wrong are pools that are not right.
func wrong() []api.Pool {
	return []api.Pool{
		{}, {Size: 0, Free: []int{0}}, {Size: -1}, {Size: 401}, {Size: greatest}, {Size: 2, Free: []int{2}}, {Size: 2, Free: []int{-1}},
		{Size: 2, Free: []int{1, 1}}, {Size: 3, Free: []int{0, 1, 2, 0}}, {Size: 400, Free: []int{400}}, {Size: 2, Free: []int{least}},
	}
}

func TestP13_1NewAndCheck(t *testing.T) {
	if p := made(t, 3); !is(p, 3, 2, 1, 0) || !pool.Check(p) {
		t.Errorf("%v", p)
	}
	if p := made(t, 1); !is(p, 1, 0) {
		t.Errorf("%v", p)
	}
	if p := made(t, 400); len(p.Free) != 400 || p.Free[0] != 399 || p.Free[399] != 0 || !pool.Check(p) {
		t.Errorf("%v", p)
	}
	for _, size := range []int{0, -1, 401, least, greatest} {
		if p, e := pool.New(size); !is(p, 0) || e != api.ErrArg {
			t.Errorf("%d: %v, %d", size, p, e)
		}
	}
	for i, p := range []api.Pool{{Size: 1}, {Size: 400}, {Size: 3, Free: []int{1}}, {Size: 3, Free: []int{0, 2, 1}}, {Size: 400, Free: []int{399, 0}}} {
		if !pool.Check(p) {
			t.Errorf("%d: not right", i)
		}
	}
	for i, p := range wrong() {
		if pool.Check(p) {
			t.Errorf("%d: right", i)
		}
	}
}

func TestP13_2Take(t *testing.T) {
	p := made(t, 3)
	for want := range 3 {
		n, left, e := pool.Take(p)
		if n != want || e != api.OK || !is(left, 3, p.Free[:2-want]...) {
			t.Errorf("%d: %d, %v, %d", want, n, left, e)
		}
		p = left
	}
	if n, left, e := pool.Take(p); n != 0 || !is(left, 0) || e != api.ErrFull {
		t.Errorf("%d, %v, %d", n, left, e)
	}
	if n, left, e := pool.Take(api.Pool{Size: 9, Free: []int{7, 3, 5}}); n != 5 || !is(left, 9, 7, 3) || e != api.OK {
		t.Errorf("%d, %v, %d", n, left, e)
	}
}

func TestP13_2Give(t *testing.T) {
	p := api.Pool{Size: 4, Free: []int{3, 0}}
	if q, e := pool.Give(p, 2); !is(q, 4, 3, 0, 2) || e != api.OK {
		t.Errorf("%v, %d", q, e)
	}
	for n, want := range map[int]api.Errno{0: api.ErrThere, 3: api.ErrThere, 4: api.ErrArg, -1: api.ErrArg, least: api.ErrArg, greatest: api.ErrArg} {
		if q, e := pool.Give(p, n); !is(q, 0) || e != want {
			t.Errorf("%d: %v, %d", n, q, e)
		}
	}
	if q, e := pool.Give(made(t, 3), 1); !is(q, 0) || e != api.ErrThere {
		t.Errorf("%v, %d", q, e)
	}
}

func TestP13_2Takes(t *testing.T) {
	p := api.Pool{Size: 9, Free: []int{7, 3, 5}}
	for many, want := range [][]int{nil, {5}, {5, 3}, {5, 3, 7}} {
		l, q, e := pool.Takes(p, many)
		if !slices.Equal(l, want) || !is(q, 9, p.Free[:3-many]...) || e != api.OK {
			t.Errorf("%d: %v, %v, %d", many, l, q, e)
		}
	}
	for many, want := range map[int]api.Errno{4: api.ErrFull, greatest: api.ErrFull, -1: api.ErrArg, least: api.ErrArg} {
		if l, q, e := pool.Takes(p, many); len(l) != 0 || !is(q, 0) || e != want {
			t.Errorf("%d: %v, %v, %d", many, l, q, e)
		}
	}
}

func TestP13_2Wrong(t *testing.T) {
	for i, p := range wrong() {
		n, a, e := pool.Take(p)
		b, f := pool.Give(p, -1)
		l, c, g := pool.Takes(p, -1)
		if n != 0 || len(l) != 0 || !is(a, 0) || !is(b, 0) || !is(c, 0) || e != api.ErrPool || f != api.ErrPool || g != api.ErrPool {
			t.Errorf("%d: %d, %d, %d", i, e, f, g)
		}
	}
}

func TestP13_3WhatFollows(t *testing.T) {
	for seed := range 20 {
		r := sample.New(seed)
		p := made(t, 1+r.Below(12))
		var out []int
		for range 200 {
			if many := r.Below(4); r.Below(2) == 0 {
				if l, q, e := pool.Takes(p, many); e == api.OK {
					p, out = q, append(out, l...)
				}
			} else if len(out) > 0 {
				at := r.Below(len(out))
				q, e := pool.Give(p, out[at])
				if e != api.OK {
					t.Fatalf("%d: Give: %d", seed, e)
				}
				p, out = q, slices.Delete(out, at, at+1)
			}
			all := slices.Concat(out, p.Free)
			slices.Sort(all)
			if !pool.Check(p) || len(slices.Compact(all)) != p.Size {
				t.Fatalf("%d: %v are out, %v are free", seed, out, p.Free)
			}
		}
		l, q, _ := pool.Takes(p, len(p.Free))
		for _, n := range slices.Backward(l) {
			q, _ = pool.Give(q, n)
		}
		if !is(q, p.Size, p.Free...) {
			t.Errorf("%d: %v, not as it was", seed, q)
		}
	}
}

func TestR2NothingShared(t *testing.T) {
	// A Free with room behind it: nothing may be put there.
	free := []int{0, 1, 2, 7}
	p := api.Pool{Size: 4, Free: free[:2]}
	q, _ := pool.Give(p, 3)
	_, a, _ := pool.Take(p)
	l, b, _ := pool.Takes(p, 1)
	q.Free[0], a.Free[0], b.Free[0], l[0] = 9, 9, 9, 9
	_ = append(a.Free, 8)
	_ = append(b.Free, 8)
	if !slices.Equal(free, []int{0, 1, 2, 7}) {
		t.Errorf("%v", free)
	}
}
