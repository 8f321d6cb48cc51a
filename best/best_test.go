package best_test

import (
	"slices"
	"testing"

	"wayside/api"
	"wayside/best"
	"wayside/sample"
)

func ahead(a, b api.Hit) int {
	if a.D != b.D {
		if a.D < b.D {
			return -1
		}
		return 1
	}
	if a.V != b.V {
		if a.V < b.V {
			return -1
		}
		return 1
	}
	return 0
}

func made(t *testing.T, most int) *best.Queue {
	t.Helper()
	q, e := best.New(most)
	if q == nil || e != api.OK || q.Len() != 0 || len(q.All()) != 0 {
		t.Fatalf("New(%d): %d", most, e)
	}
	return q
}

func TestP10_1New(t *testing.T) {
	for _, most := range []int{0, -1, 1001, 1<<63 - 1, -1 << 63} {
		if q, e := best.New(most); q != nil || e != api.ErrArg {
			t.Errorf("%d: %v, %d", most, q, e)
		}
	}
	for _, most := range []int{1, 1000} {
		q := made(t, most)
		for i := range most {
			if h, out := q.Put(api.Hit{V: i}); out || h != (api.Hit{}) || q.Len() != i+1 {
				t.Fatalf("%d of %d: %v, %v", i, most, h, out)
			}
		}
		if h, out := q.Put(api.Hit{V: -1}); h != (api.Hit{V: most - 1}) || !out || q.Len() != most {
			t.Errorf("one more than %d: %v, %v", most, h, out)
		}
	}
}

func TestP10_1Example(t *testing.T) {
	q := made(t, 2)
	for i, x := range []struct {
		put, out api.Hit
		is       bool
	}{{api.Hit{V: 1, D: 5}, api.Hit{}, false}, {api.Hit{V: 2, D: 3}, api.Hit{}, false}, {api.Hit{V: 3, D: 4}, api.Hit{V: 1, D: 5}, true}} {
		if h, out := q.Put(x.put); h != x.out || out != x.is {
			t.Errorf("%d: %v, %v", i, h, out)
		}
	}
	for i, want := range []api.Hit{{V: 2, D: 3}, {V: 3, D: 4}} {
		if h, ok := q.Take(); h != want || !ok || q.Len() != 1-i {
			t.Errorf("%d: %v, %v", i, h, ok)
		}
	}
	if h, ok := q.Take(); h != (api.Hit{}) || ok {
		t.Errorf("none: %v, %v", h, ok)
	}
}

func TestP10_1Alike(t *testing.T) {
	q := made(t, 3)
	h := api.Hit{V: 1, D: 1}
	for range 3 {
		q.Put(h)
	}
	if l := q.All(); !slices.Equal(l, []api.Hit{h, h, h}) {
		t.Errorf("%v", l)
	}
	if out, is := q.Put(h); out != h || !is || q.Len() != 3 {
		t.Errorf("%v, %v", out, is)
	}
	// The hit that is put may be the last one itself; of the same D the greater V is.
	if out, is := q.Put(api.Hit{V: 2, D: 1}); out != (api.Hit{V: 2, D: 1}) || !is {
		t.Errorf("%v, %v", out, is)
	}
	if out, is := q.Put(api.Hit{V: -1 << 63, D: -1 << 63}); out != h || !is {
		t.Errorf("%v, %v", out, is)
	}
	if first, ok := q.Take(); first != (api.Hit{V: -1 << 63, D: -1 << 63}) || !ok {
		t.Errorf("%v, %v", first, ok)
	}
}

func TestP10_1NoQueue(t *testing.T) {
	var none *best.Queue
	h, out := none.Put(api.Hit{V: 1, D: 1})
	f, ok := none.Take()
	if h != (api.Hit{}) || out || f != (api.Hit{}) || ok || none.Len() != 0 || len(none.All()) != 0 {
		t.Errorf("no queue: %v, %v, %v, %v", h, out, f, ok)
	}
	var zero best.Queue
	if h, out := zero.Put(api.Hit{V: 1, D: 1}); h != (api.Hit{V: 1, D: 1}) || !out || zero.Len() != 0 {
		t.Errorf("a queue of at most none: %v, %v", h, out)
	}
}

// Puts and takes in any order, held against a list that is sorted anew each time.
func TestP10_1OfSamples(t *testing.T) {
	for seed := range 20 {
		r := sample.New(seed)
		most := 1 + r.Below(12)
		q := made(t, most)
		var l []api.Hit
		for range 300 {
			if r.Below(3) > 0 {
				h := api.Hit{V: r.Below(6) - 2, D: r.Below(6) - 2}
				l = append(l, h)
				slices.SortFunc(l, ahead)
				want, more := api.Hit{}, len(l) > most
				if more {
					want, l = l[most], l[:most]
				}
				if out, is := q.Put(h); out != want || is != more {
					t.Fatalf("%d: Put %v: %v, %v, not %v", seed, h, out, is, want)
				}
			} else {
				want, there := api.Hit{}, len(l) > 0
				if there {
					want, l = l[0], l[1:]
				}
				if h, ok := q.Take(); h != want || ok != there {
					t.Fatalf("%d: Take: %v, %v, not %v", seed, h, ok, want)
				}
			}
			if q.Len() != len(l) || !slices.Equal(q.All(), l) {
				t.Fatalf("%d: %v, not %v", seed, q.All(), l)
			}
		}
	}
}

func TestP10_2First(t *testing.T) {
	l := []api.Hit{{V: 2, D: 1}, {V: 1, D: 2}, {V: 1, D: 1}, {V: 2, D: 1}, {V: 9, D: -1}}
	want := []api.Hit{{V: 9, D: -1}, {V: 1, D: 1}, {V: 2, D: 1}, {V: 2, D: 1}, {V: 1, D: 2}}
	for _, x := range [][2]int{{-1 << 63, 0}, {-1, 0}, {0, 0}, {1, 1}, {3, 3}, {5, 5}, {6, 5}, {1<<63 - 1, 5}} {
		if got := best.First(l, x[0]); !slices.Equal(got, want[:x[1]]) {
			t.Errorf("%d: %v", x[0], got)
		}
	}
	if got := best.First(nil, 3); len(got) != 0 {
		t.Errorf("%v", got)
	}
	if long := best.First(slices.Repeat(l, 500), 2000); len(long) != 2000 || !slices.IsSortedFunc(long, ahead) {
		t.Errorf("%d of 2500", len(long))
	}
}

func TestP10_3WhatFollows(t *testing.T) {
	for seed := range 20 {
		r := sample.New(seed)
		k := 1 + r.Below(20)
		q := made(t, k)
		var l []api.Hit
		for range r.Below(40) {
			l = append(l, api.Hit{V: r.Below(9), D: r.Below(9)})
			q.Put(l[len(l)-1])
		}
		if !slices.Equal(q.All(), best.First(l, k)) {
			t.Errorf("%d: %v, not %v", seed, q.All(), best.First(l, k))
		}
		last, ok := q.Take()
		for ok {
			h, more := q.Take()
			if more && ahead(h, last) < 0 {
				t.Errorf("%d: %v behind %v", seed, h, last)
			}
			last, ok = h, more
		}
	}
}

func TestR2NothingShared(t *testing.T) {
	l := []api.Hit{{V: 2}, {V: 1}}
	best.First(l, 2)[0].V = 9
	q := made(t, 4)
	q.Put(l[0])
	q.Put(l[1])
	q.All()[0].V = 9
	_ = append(q.All(), api.Hit{V: 7})
	if !slices.Equal(l, []api.Hit{{V: 2}, {V: 1}}) || !slices.Equal(q.All(), []api.Hit{{V: 1}, {V: 2}}) {
		t.Errorf("%v, %v", l, q.All())
	}
}
