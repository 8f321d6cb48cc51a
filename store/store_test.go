package store_test

import (
	"slices"
	"testing"

	"wayside/api"
	"wayside/sample"
	"wayside/store"
)

const least, greatest = -1 << 63, 1<<63 - 1

func made(t *testing.T, size int) *store.Store {
	t.Helper()
	s, e := store.New(size)
	if s == nil || e != api.OK || s.Live() != 0 || s.Free() != size {
		t.Fatalf("New(%d): %d", size, e)
	}
	return s
}

func TestP15_1New(t *testing.T) {
	for _, size := range []int{0, -1, 401, least, greatest} {
		if s, e := store.New(size); s != nil || e != api.ErrArg {
			t.Errorf("%d: %v, %d", size, s, e)
		}
	}
	for _, size := range []int{1, 400} {
		s := made(t, size)
		for i := range size {
			if e := s.Put(sample.State(i/200, i%2, i%200, 1)); e != api.OK || s.Live() != i+1 || s.Free() != size-1-i {
				t.Fatalf("%d of %d: %d", i, size, e)
			}
		}
		if e := s.Put(sample.State(9, 0, 0, 0)); e != api.ErrFull || s.Live() != size || s.Free() != 0 {
			t.Errorf("one more than %d: %d", size, e)
		}
	}
}

func TestP15_1Example(t *testing.T) {
	s := made(t, 2)
	a, b := s.Put(sample.State(0, 0, 5, 3)), s.Put(sample.State(0, 0, 5, 3))
	c, d := s.Put(sample.State(1, 0, 5, 3)), s.Put(sample.State(1, 1, 5, 3))
	if a != api.OK || b != api.ErrThere || c != api.OK || d != api.ErrFull {
		t.Errorf("%d, %d, %d, %d", a, b, c, d)
	}
	if e := s.Put(sample.State(0, 0, 5, 4)); e != api.ErrThere {
		t.Errorf("a full store, a state that is there: %d", e)
	}
	if n := s.Drop(0); n != 1 || s.Put(sample.State(1, 1, 5, 7)) != api.OK {
		t.Errorf("%d", n)
	}
	if l := s.Of(1); !slices.Equal(l, []api.State{sample.State(1, 0, 5, 3), sample.State(1, 1, 5, 7)}) {
		t.Errorf("%v", l)
	}
	if d, ok := s.Get(api.Key{Slot: 1, Dir: 1, V: 5}); d != 7 || !ok {
		t.Errorf("%d, %v", d, ok)
	}
	if d, ok := s.Get(api.Key{V: 5}); d != 0 || ok || len(s.Of(0)) != 0 || s.Drop(0) != 0 {
		t.Errorf("what was dropped: %d, %v", d, ok)
	}
}

func TestP15_1Wrong(t *testing.T) {
	s := made(t, 3)
	for _, x := range []api.State{
		sample.State(-1, 0, 0, 0), sample.State(1001, 0, 0, 0), sample.State(0, -1, 0, 0), sample.State(0, 2, 0, 0), sample.State(0, 0, -1, 0), sample.State(0, 0, 200, 0),
		sample.State(0, 0, 0, -1), sample.State(0, 0, 0, 201), sample.State(least, least, least, least), sample.State(greatest, greatest, greatest, greatest),
	} {
		d, ok := s.Get(x.Key)
		if e := s.Put(x); e != api.ErrArg || d != 0 || ok || s.Live() != 0 {
			t.Errorf("%v: %d, %d, %v", x, e, d, ok)
		}
	}
	for _, x := range []api.State{sample.State(0, 0, 0, 0), sample.State(1000, 1, 199, 200)} {
		if e := s.Put(x); e != api.OK {
			t.Errorf("%v: %d", x, e)
		}
		if d, ok := s.Get(x.Key); d != x.D || !ok {
			t.Errorf("%v: %d, %v", x, d, ok)
		}
	}
	for _, slot := range []int{-1, 1, 1001, least, greatest} {
		if len(s.Of(slot)) != 0 || s.Drop(slot) != 0 || s.Live() != 2 {
			t.Errorf("slot %d has states", slot)
		}
	}
}

func TestP15_1NoStore(t *testing.T) {
	var zero store.Store
	for _, none := range []*store.Store{nil, &zero} {
		d, ok := none.Get(api.Key{})
		if d != 0 || ok || len(none.Of(0)) != 0 || none.Drop(0) != 0 || none.Live() != 0 || none.Free() != 0 {
			t.Errorf("no store: %d, %v", d, ok)
		}
		for _, x := range []api.State{sample.State(0, 0, 0, 0), sample.State(-1, 0, 0, 0)} {
			if e := none.Put(x); none == nil && e != api.ErrNil || e == api.OK {
				t.Errorf("no store: Put %v: %d", x, e)
			}
		}
	}
}

// Puts and drops in any order, held against a map.
func TestP15_2WhatFollows(t *testing.T) {
	for seed := range 40 {
		r := sample.New(seed)
		size := 1 + r.Below(50)
		s := made(t, size)
		there := map[api.Key]int{}
		of := func(slot int) []api.State {
			var l []api.State
			for dir := range 2 {
				for v := range 20 {
					if d, ok := there[api.Key{Slot: slot, Dir: dir, V: v}]; ok {
						l = append(l, sample.State(slot, dir, v, d))
					}
				}
			}
			return l
		}
		for range 500 {
			slot := r.Below(4)
			x := sample.State(slot, r.Below(2), r.Below(20), r.Below(201))
			_, was := there[x.Key]
			want := api.OK
			switch {
			case r.Below(12) == 0:
				l := of(slot)
				if n := s.Drop(slot); n != len(l) {
					t.Fatalf("%d: Drop %d: %d, not %d", seed, slot, n, len(l))
				}
				for _, x := range l {
					delete(there, x.Key)
				}
				continue
			case was:
				want = api.ErrThere
			case len(there) == size:
				want = api.ErrFull
			default:
				there[x.Key] = x.D
			}
			if e := s.Put(x); e != want {
				t.Fatalf("%d: Put %v: %d, not %d", seed, x, e, want)
			}
			if s.Live() != len(there) || s.Free() != size-len(there) {
				t.Fatalf("%d: Live %d, Free %d of %d", seed, s.Live(), s.Free(), size)
			}
			for slot := range 4 {
				if l := s.Of(slot); !slices.Equal(l, of(slot)) {
					t.Fatalf("%d: Of %d: %v, not %v", seed, slot, l, of(slot))
				}
			}
		}
		for slot := range 4 {
			s.Drop(slot)
		}
		if s.Live() != 0 || s.Free() != size {
			t.Errorf("%d: with all slots dropped: %d, %d", seed, s.Live(), s.Free())
		}
	}
}

func TestR2NothingShared(t *testing.T) {
	s := made(t, 3)
	s.Put(sample.State(0, 0, 1, 1))
	s.Of(0)[0].D = 9
	_ = append(s.Of(0), sample.State(0, 0, 2, 2))
	if l := s.Of(0); !slices.Equal(l, []api.State{sample.State(0, 0, 1, 1)}) {
		t.Errorf("%v", l)
	}
}
