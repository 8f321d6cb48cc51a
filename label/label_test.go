package label_test

import (
	"reflect"
	"slices"
	"testing"

	"wayside/api"
	"wayside/dist"
	"wayside/label"
	"wayside/order"
	"wayside/sample"
)

const least, greatest = -1 << 63, 1<<63 - 1

func built(t *testing.T, g api.Graph) (api.Graph, api.Rows, api.Labels) {
	t.Helper()
	n, r := sample.Rows(g)
	l, e := label.Build(r)
	if e != api.OK {
		t.Fatalf("Build: %d", e)
	}
	return n, r, l
}

func hits(numbers ...int) []api.Hit {
	var l []api.Hit
	for i := 1; i < len(numbers); i += 2 {
		l = append(l, api.Hit{V: numbers[i-1], D: numbers[i]})
	}
	return l
}

func same(a, b [][]api.Hit) bool {
	return slices.EqualFunc(a, b, slices.Equal[[]api.Hit])
}

// hubs works P12.1 out as it is told: the rows of hubs out of each place, and into it.
func hubs(r api.Rows, far [][]int) api.Labels {
	by, _ := order.By(r)
	n := len(far)
	l := api.Labels{Out: make([][]api.Hit, n), In: make([][]api.Hit, n)}
	between := func(u, v, w int) bool {
		return far[v][u] >= 0 && far[u][w] >= 0 && far[v][u]+far[u][w] == far[v][w]
	}
	for at, h := range by {
		for v := range n {
			into, out := far[h][v] >= 0, far[v][h] >= 0
			for _, u := range by[:at] {
				into, out = into && !between(u, h, v), out && !between(u, v, h)
			}
			if into {
				l.In[v] = append(l.In[v], api.Hit{V: h, D: far[h][v]})
			}
			if out {
				l.Out[v] = append(l.Out[v], api.Hit{V: h, D: far[v][h]})
			}
		}
	}
	return l
}

func TestP12_1Build(t *testing.T) {
	_, _, l := built(t, sample.Plain(3, 0, 1, 1, 2))
	want := api.Labels{Out: [][]api.Hit{hits(1, 1, 0, 0), hits(1, 0), hits(2, 0)}, In: [][]api.Hit{hits(0, 0), hits(1, 0), hits(1, 1, 2, 0)}}
	if !reflect.DeepEqual(l, want) || label.Size(l) != 8 {
		t.Errorf("%v", l)
	}
	if d, ok, e := label.Query(l, 0, 2); d != 2 || !ok || e != api.OK {
		t.Errorf("%d, %v, %d", d, ok, e)
	}
	if d, ok, e := label.Query(l, 2, 0); d != 0 || ok || e != api.OK {
		t.Errorf("%d, %v, %d", d, ok, e)
	}
	if l, e := label.Build(api.Rows{}); l.In != nil || l.Out != nil || e != api.ErrRows {
		t.Errorf("%v, %d", l, e)
	}
	for seed := range 60 {
		g, r, l := built(t, sample.Graph(seed, 1+seed/2, seed*(1+seed%3)/2))
		want := hubs(r, sample.Levels(g))
		if !same(l.In, want.In) || !same(l.Out, want.Out) {
			t.Errorf("%d: %v, not %v", seed, l, want)
		}
	}
}

func TestP12_1BuildOfMany(t *testing.T) {
	for _, g := range []api.Graph{sample.Line(200), sample.Graph(5, 200, 2000), sample.Graph(6, 200, 250)} {
		g, r, l := built(t, g)
		want := hubs(r, sample.Levels(g))
		if !same(l.In, want.In) || !same(l.Out, want.Out) || !label.Check(l) {
			t.Errorf("%d places, %d ways", g.N, len(g.Edges))
		}
	}
}

func TestP12_1CheckAndSize(t *testing.T) {
	none := [][]api.Hit{nil}
	one := func(numbers ...int) [][]api.Hit { return [][]api.Hit{nil, hits(numbers...)} }
	for i, x := range []struct {
		l    api.Labels
		is   bool
		size int
	}{
		{api.Labels{}, false, 0}, {api.Labels{Out: none, In: none}, true, 0}, {api.Labels{Out: none}, false, 0}, {api.Labels{In: none}, false, 0},
		{api.Labels{Out: make([][]api.Hit, 200), In: make([][]api.Hit, 200)}, true, 0}, {api.Labels{Out: make([][]api.Hit, 201), In: make([][]api.Hit, 201)}, false, 0},
		{api.Labels{Out: one(0, 0, 1, 200), In: one()}, true, 2}, {api.Labels{Out: one(), In: one(1, 7, 0, 7)}, true, 2}, {api.Labels{Out: one(1, 1), In: one(1, 1)}, true, 2},
		{api.Labels{Out: one(2, 0), In: one()}, false, 1}, {api.Labels{Out: one(), In: one(-1, 0)}, false, 1}, {api.Labels{Out: one(0, 201), In: one()}, false, 1},
		{api.Labels{Out: one(), In: one(0, -1)}, false, 1}, {api.Labels{Out: one(1, 0, 0, 1, 1, 0), In: one()}, false, 3}, {api.Labels{Out: one(), In: one(1, 0, 1, 5)}, false, 2},
		{api.Labels{Out: one(0, 0), In: none}, false, 1}, {api.Labels{Out: one(greatest, least), In: one(least, greatest)}, false, 2},
	} {
		if label.Check(x.l) != x.is || label.Size(x.l) != x.size {
			t.Errorf("%d: %v, %d", i, label.Check(x.l), label.Size(x.l))
		}
	}
}

func TestP12_2Query(t *testing.T) {
	l := api.Labels{Out: [][]api.Hit{hits(2, 200, 0, 5, 1, 3), nil, hits(1, 0)}, In: [][]api.Hit{hits(0, 1, 1, 4), hits(2, 200), nil}}
	for _, x := range []struct {
		from, to, d int
		ok          bool
	}{{0, 0, 6, true}, {0, 1, 400, true}, {0, 2, 0, false}, {1, 1, 0, false}, {2, 0, 4, true}, {2, 1, 0, false}} {
		if d, ok, e := label.Query(l, x.from, x.to); d != x.d || ok != x.ok || e != api.OK {
			t.Errorf("%v: %d, %v, %d", x, d, ok, e)
		}
	}
	for _, x := range [][2]int{{-1, 0}, {0, -1}, {3, 0}, {0, 3}, {least, 0}, {0, greatest}} {
		if d, ok, e := label.Query(l, x[0], x[1]); d != 0 || ok || e != api.ErrArg {
			t.Errorf("%v: %d, %v, %d", x, d, ok, e)
		}
	}
	for i, bad := range []api.Labels{{}, {Out: l.Out}, {Out: l.Out[:2], In: l.In}, {Out: [][]api.Hit{hits(0, 0, 0, 0)}, In: [][]api.Hit{nil}}} {
		if d, ok, e := label.Query(bad, 0, 0); d != 0 || ok || e != api.ErrArg {
			t.Errorf("%d: %d, %v, %d", i, d, ok, e)
		}
	}
}

func TestP12_3WhatFollows(t *testing.T) {
	for seed := range 12 {
		g, r, l := built(t, sample.Graph(seed, 3+2*seed, 6*seed))
		if !label.Check(l) {
			t.Errorf("%d: not right", seed)
		}
		for v := range g.N {
			for w := range g.N {
				d, ok, e := label.Query(l, v, w)
				want, is, _ := dist.Dist(r, v, w)
				if d != want || ok != is || e != api.OK {
					t.Errorf("%d: %d to %d: %d, %v, %d, not %d", seed, v, w, d, ok, e, want)
				}
			}
		}
		for v, row := range l.In {
			for i, h := range row {
				l.In[v] = slices.Delete(slices.Clone(row), i, i+1)
				if d, ok, _ := label.Query(l, h.V, v); ok && d == h.D {
					t.Errorf("%d: %v can be left out at %d", seed, h, v)
				}
				l.In[v] = row
			}
		}
	}
}

func TestR2NothingShared(t *testing.T) {
	_, r, l := built(t, sample.Plain(3, 0, 1, 1, 2))
	for v := range l.Out {
		_ = append(l.Out[v], api.Hit{V: 9})
		l.Out[v][0].V = 9
	}
	_, r2, again := built(t, sample.Plain(3, 0, 1, 1, 2))
	if !same(l.In, again.In) || !reflect.DeepEqual(r, r2) || again.Out[0][0].V != 1 {
		t.Errorf("%v, %v", l.In, r)
	}
}
