package table_test

import (
	"slices"
	"testing"

	"wayside/api"
	"wayside/sample"
	"wayside/table"
)

const least, greatest = -1 << 63, 1<<63 - 1

func made(t *testing.T, most int) *table.Table {
	t.Helper()
	x, e := table.New(most)
	if x == nil || e != api.OK || x.Len() != 0 || len(x.Keys()) != 0 {
		t.Fatalf("New(%d): %d", most, e)
	}
	return x
}

func key(slot, dir, v int) api.Key { return api.Key{Slot: slot, Dir: dir, V: v} }

// wrong are keys that may not be.
func wrong() []api.Key {
	return []api.Key{key(-1, 0, 0), key(1001, 0, 0), key(0, -1, 0), key(0, 2, 0), key(0, 0, -1), key(0, 0, 200), key(least, least, least), key(greatest, greatest, greatest), key(greatest, 0, 0)}
}

func TestP14_1New(t *testing.T) {
	for _, most := range []int{0, -1, 401, least, greatest} {
		if x, e := table.New(most); x != nil || e != api.ErrArg {
			t.Errorf("%d: %v, %d", most, x, e)
		}
	}
	for _, most := range []int{1, 400} {
		x := made(t, most)
		for i := range most {
			if e := x.Put(key(i%7, i%2, i%200), i); e != api.OK {
				t.Fatalf("%d of %d: %d", i, most, e)
			}
		}
		if x.Len() != most || len(x.Keys()) != most || x.Put(key(1000, 1, 199), 1) != api.ErrFull {
			t.Errorf("%d: %d keys", most, x.Len())
		}
	}
}

func TestP14_1Example(t *testing.T) {
	x := made(t, 2)
	if e := x.Put(key(0, 0, 5), 9); e != api.OK {
		t.Errorf("%d", e)
	}
	if n, ok := x.Get(key(0, 0, 5)); n != 9 || !ok {
		t.Errorf("%d, %v", n, ok)
	}
	if n, ok := x.Get(key(0, 1, 5)); n != 0 || ok {
		t.Errorf("%d, %v", n, ok)
	}
	a, b := x.Put(key(0, 1, 5), 1), x.Put(key(1, 0, 0), 1)
	if a != api.OK || b != api.ErrFull || x.Len() != 2 {
		t.Errorf("%d, %d", a, b)
	}
	if e := x.Put(key(0, 0, 5), 10); e != api.OK || x.Len() != 2 {
		t.Errorf("a full table, a key that is there: %d", e)
	}
	if !x.Drop(key(0, 0, 5)) || x.Drop(key(0, 0, 5)) || x.Len() != 1 {
		t.Errorf("Drop")
	}
	if e := x.Put(key(1, 0, 0), 1); e != api.OK || !slices.Equal(x.Keys(), []api.Key{key(0, 1, 5), key(1, 0, 0)}) {
		t.Errorf("%d, %v", e, x.Keys())
	}
}

func TestP14_1Wrong(t *testing.T) {
	x := made(t, 1)
	x.Put(key(0, 0, 0), 0)
	for _, k := range wrong() {
		n, ok := x.Get(k)
		if e := x.Put(k, 1); e != api.ErrArg || n != 0 || ok || x.Drop(k) || x.Len() != 1 {
			t.Errorf("%v: %d, %d, %v", k, e, n, ok)
		}
	}
	// A key of zeros with 0 is there, too.
	if n, ok := x.Get(key(0, 0, 0)); n != 0 || !ok || x.Put(key(0, 0, 1), 0) != api.ErrFull {
		t.Errorf("%d, %v", n, ok)
	}
	var zero table.Table
	for _, none := range []*table.Table{nil, &zero} {
		n, ok := none.Get(key(0, 0, 0))
		if n != 0 || ok || none.Drop(key(0, 0, 0)) || none.Len() != 0 || len(none.Keys()) != 0 {
			t.Errorf("no table: %d, %v", n, ok)
		}
		for _, k := range []api.Key{key(0, 0, 0), key(-1, 0, 0)} {
			if e := none.Put(k, 1); none == nil && e != api.ErrNil || e == api.OK {
				t.Errorf("no table: Put %v: %d", k, e)
			}
		}
	}
}

func TestP14_1KeysRise(t *testing.T) {
	x := made(t, 9)
	want := []api.Key{key(0, 0, 1), key(0, 0, 199), key(0, 1, 0), key(1, 0, 0), key(2, 0, 3), key(2, 1, 0), key(9, 0, 0), key(10, 0, 0), key(1000, 1, 199)}
	for _, i := range []int{4, 8, 0, 6, 2, 7, 1, 5, 3} {
		if e := x.Put(want[i], -i); e != api.OK {
			t.Errorf("%v: %d", want[i], e)
		}
	}
	if l := x.Keys(); !slices.Equal(l, want) {
		t.Errorf("%v", l)
	}
	x.Keys()[0].V = 7
	if l := x.Keys(); !slices.Equal(l, want) {
		t.Errorf("keys that came out are kept: %v", l)
	}
}

// Puts and drops in any order, held against a map.
func TestP14_2OfSamples(t *testing.T) {
	for seed := range 60 {
		r := sample.New(seed)
		most := 1 + r.Below(60)
		if seed%10 == 9 {
			most = 400
		}
		x := made(t, most)
		there := map[api.Key]int{}
		some := func() api.Key { return key(r.Below(3)*500, r.Below(2), r.Below(4+most/3)) }
		for range 40 * most {
			k := some()
			old, was := there[k]
			if r.Below(5) > 1 {
				n, want := r.Below(1000)-500, api.OK
				if !was && len(there) == most {
					want = api.ErrFull
				} else {
					there[k] = n
				}
				if e := x.Put(k, n); e != want {
					t.Fatalf("%d: Put %v: %d, not %d", seed, k, e, want)
				}
			} else {
				if n, ok := x.Get(k); ok != was || n != old {
					t.Fatalf("%d: Get %v: %d, %v, not %d, %v", seed, k, n, ok, old, was)
				}
				delete(there, k)
				if x.Drop(k) != was {
					t.Fatalf("%d: Drop %v: %v", seed, k, !was)
				}
			}
			if x.Len() != len(there) {
				t.Fatalf("%d: Len %d, not %d", seed, x.Len(), len(there))
			}
			other := some()
			n, ok := x.Get(other)
			if want, is := there[other]; ok != is || n != want {
				t.Fatalf("%d: Get %v: %d, %v, not %d, %v", seed, other, n, ok, want, is)
			}
		}
		l := x.Keys()
		if len(l) != len(there) {
			t.Fatalf("%d: %d keys, not %d", seed, len(l), len(there))
		}
		for _, k := range l {
			n, ok := x.Get(k)
			if want, is := there[k]; !ok || !is || n != want {
				t.Errorf("%d: %v: %d, %v", seed, k, n, ok)
			}
		}
	}
}
