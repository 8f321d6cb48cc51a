package slots_test

import (
	"reflect"
	"slices"
	"testing"

	"wayside/api"
	"wayside/sample"
	"wayside/slots"
)

const least, greatest = -1 << 63, 1<<63 - 1

func request(id int) api.Request {
	return api.Request{Id: id, Kind: 3, Query: api.Query{Kind: 3, Words: []string{"a", "b"}, Most: 1}}
}

func made(t *testing.T, n int) []api.Held {
	t.Helper()
	l, e := slots.New(n)
	if len(l) != n || e != api.OK {
		t.Fatalf("New(%d): %d", n, e)
	}
	return l
}

// holding are slots with requests of these Ids; those of -1 are not used.
func holding(ids ...int) []api.Held {
	l := make([]api.Held, len(ids))
	for i, id := range ids {
		if id != -1 {
			l[i] = api.Held{Used: true, Request: request(id)}
		}
	}
	return l
}

func is(l []api.Held, ids ...int) bool {
	return len(l) == 0 && len(ids) == 0 || reflect.DeepEqual(l, holding(ids...))
}

func TestP24_1New(t *testing.T) {
	for _, n := range []int{1, 2, 64} {
		if l := made(t, n); !is(l, slices.Repeat([]int{-1}, n)...) {
			t.Errorf("%d: %v", n, l)
		}
	}
	for _, n := range []int{0, -1, 65, least, greatest} {
		if l, e := slots.New(n); len(l) != 0 || e != api.ErrArg {
			t.Errorf("%d: %v, %d", n, l, e)
		}
	}
}

func TestP24_1UsedAndFind(t *testing.T) {
	l := holding(-1, 5, 7, -1, 5)
	if u := slots.Used(l); !slices.Equal(u, []int{1, 2, 4}) {
		t.Errorf("%v", u)
	}
	if u := slots.Used(nil); len(u) != 0 {
		t.Errorf("%v", u)
	}
	for id, want := range map[int]int{5: 1, 7: 2} {
		if at, ok := slots.Find(l, id); at != want || !ok {
			t.Errorf("%d: %d, %v", id, at, ok)
		}
	}
	// A request in a slot that is not used is not held.
	l[0].Request = request(9)
	for _, id := range []int{0, 9, least, greatest} {
		if at, ok := slots.Find(l, id); at != 0 || ok {
			t.Errorf("%d: %d, %v", id, at, ok)
		}
	}
}

func TestP24_2Example(t *testing.T) {
	l := made(t, 2)
	a, l, e := slots.Put(l, request(5))
	b, l, f := slots.Put(l, request(6))
	if a != 0 || b != 1 || e != api.OK || f != api.OK || !is(l, 5, 6) {
		t.Errorf("%d, %d, %v", a, b, l)
	}
	if c, none, e := slots.Put(l, request(7)); c != 0 || len(none) != 0 || e != api.ErrFull {
		t.Errorf("%d, %v, %d", c, none, e)
	}
	l, e = slots.Drop(l, 0)
	if !is(l, -1, 6) || e != api.OK {
		t.Errorf("%v, %d", l, e)
	}
	c, l, e := slots.Put(l, request(7))
	at, six := slots.Find(l, 6)
	if _, five := slots.Find(l, 5); c != 0 || e != api.OK || at != 1 || !six || five || !is(l, 7, 6) {
		t.Errorf("%d, %d, %v, %v", c, at, five, l)
	}
}

func TestP24_2PutAndDrop(t *testing.T) {
	if at, l, e := slots.Put(nil, request(1)); at != 0 || len(l) != 0 || e != api.ErrFull {
		t.Errorf("%d, %v, %d", at, l, e)
	}
	if at, l, e := slots.Put(holding(3, 1, -1, -1), request(3)); at != 2 || !is(l, 3, 1, 3, -1) || e != api.OK {
		t.Errorf("%d, %v, %d", at, l, e)
	}
	for slot, want := range map[int]api.Errno{-1: api.ErrArg, 3: api.ErrArg, least: api.ErrArg, greatest: api.ErrArg, 1: api.ErrNone} {
		if l, e := slots.Drop(holding(3, -1, 4), slot); len(l) != 0 || e != want {
			t.Errorf("%d: %v, %d", slot, l, e)
		}
	}
	if l, e := slots.Drop(nil, 0); len(l) != 0 || e != api.ErrArg {
		t.Errorf("%v, %d", l, e)
	}
	odd := holding(-1, 4)
	odd[0].Request = request(9)
	if l, e := slots.Drop(odd, 1); e != api.OK || !reflect.DeepEqual(l[0], odd[0]) || !reflect.DeepEqual(l[1], api.Held{}) {
		t.Errorf("%v, %d", l, e)
	}
}

func TestP24_3WhatFollows(t *testing.T) {
	for seed := range 20 {
		r := sample.New(seed)
		l := made(t, 5)
		ids := []int{-1, -1, -1, -1, -1}
		for next := range 200 {
			if r.Below(2) == 0 {
				at, put, e := slots.Put(l, request(next))
				want := slices.Index(ids, -1)
				if (e == api.OK) != (want >= 0) || e == api.OK && at != want {
					t.Fatalf("%d: Put in %v: %d, %d", seed, ids, at, e)
				}
				if e == api.OK {
					l, ids[at] = put, next
					dropped, _ := slots.Drop(l, at)
					if again, back, _ := slots.Put(dropped, request(next)); again != at || !reflect.DeepEqual(back, l) {
						t.Fatalf("%d: put into a slot that was dropped: %d, %v", seed, again, back)
					}
				}
			} else if slot := r.Below(5); ids[slot] >= 0 {
				l, _ = slots.Drop(l, slot)
				ids[slot] = -1
			}
			if !is(l, ids...) {
				t.Fatalf("%d: %v, not %v", seed, l, ids)
			}
		}
	}
}

func TestR2NothingShared(t *testing.T) {
	l, x := holding(1, 2, -1), request(7)
	_, put, _ := slots.Put(l, x)
	dropped, _ := slots.Drop(l, 0)
	for _, out := range [][]api.Held{put, dropped[1:2]} {
		for i := range out {
			out[i].Request.Query.Words[0] = "z"
			out[i].Used = false
		}
	}
	if !is(l, 1, 2, -1) || x.Query.Words[0] != "a" {
		t.Errorf("%v, %v", l, x)
	}
}
