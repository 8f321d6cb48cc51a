package rows_test

import (
	"reflect"
	"slices"
	"testing"

	"wayside/api"
	"wayside/graph"
	"wayside/rows"
	"wayside/sample"
)

func made(t *testing.T, g api.Graph) (api.Graph, api.Rows) {
	t.Helper()
	n, _ := graph.Normal(g)
	r, e := rows.Make(n)
	if e != api.OK {
		t.Fatalf("Make: %d", e)
	}
	return n, r
}

func copied(r api.Rows) api.Rows {
	return api.Rows{Off: slices.Clone(r.Off), To: slices.Clone(r.To), RevOff: slices.Clone(r.RevOff), Rev: slices.Clone(r.Rev)}
}

// wrong are rows that are not right.
func wrong() map[string]api.Rows {
	l := slices.Repeat([]int{0}, 202)
	return map[string]api.Rows{
		"none":             {},
		"one element":      {Off: []int{0}, RevOff: []int{0}},
		"more offs":        {Off: []int{0, 0, 0}, RevOff: []int{0, 0}},
		"more revoffs":     {Off: []int{0, 0}, RevOff: []int{0, 0, 0}},
		"201 places":       {Off: l, RevOff: l},
		"begins with 1":    {Off: []int{1, 1}, To: []int{0}, RevOff: []int{0, 1}, Rev: []int{0}},
		"begins with -1":   {Off: []int{-1, 1}, To: []int{0}, RevOff: []int{0, 1}, Rev: []int{0}},
		"falls":            {Off: []int{0, 2, 1}, To: []int{0}, RevOff: []int{0, 1, 1}, Rev: []int{0}},
		"ends too early":   {Off: []int{0, 0}, To: []int{0}, RevOff: []int{0, 1}, Rev: []int{0}},
		"ends too late":    {Off: []int{0, 2}, To: []int{0}, RevOff: []int{0, 1}, Rev: []int{0}},
		"rev ends early":   {Off: []int{0, 1}, To: []int{0}, RevOff: []int{0, 0}, Rev: []int{0}},
		"no place":         {Off: []int{0, 1}, To: []int{1}, RevOff: []int{0, 1}, Rev: []int{0}},
		"a place below 0":  {Off: []int{0, 1}, To: []int{-1}, RevOff: []int{0, 1}, Rev: []int{0}},
		"rev no place":     {Off: []int{0, 1}, To: []int{0}, RevOff: []int{0, 1}, Rev: []int{1}},
		"a number twice":   {Off: []int{0, 2}, To: []int{0, 0}, RevOff: []int{0, 2}, Rev: []int{0, 0}},
		"numbers fall":     {Off: []int{0, 2, 2}, To: []int{1, 0}, RevOff: []int{0, 1, 2}, Rev: []int{0, 0}},
		"rev falls":        {Off: []int{0, 1, 2}, To: []int{0, 0}, RevOff: []int{0, 2, 2}, Rev: []int{1, 0}},
		"another way":      {Off: []int{0, 1, 1}, To: []int{1}, RevOff: []int{0, 1, 1}, Rev: []int{0}},
		"from another one": {Off: []int{0, 1, 1}, To: []int{1}, RevOff: []int{0, 0, 1}, Rev: []int{1}},
		"no way back":      {Off: []int{0, 1, 1}, To: []int{1}, RevOff: []int{0, 0, 0}},
		"no way out":       {Off: []int{0, 0, 0}, RevOff: []int{0, 0, 1}, Rev: []int{0}},
		"one more back":    {Off: []int{0, 1, 1}, To: []int{1}, RevOff: []int{0, 0, 2}, Rev: []int{0, 1}},
	}
}

func TestP4_1Make(t *testing.T) {
	_, r := made(t, sample.Plain(3, 0, 1, 0, 2, 2, 1))
	want := api.Rows{Off: []int{0, 2, 2, 3}, To: []int{1, 2, 1}, RevOff: []int{0, 0, 2, 3}, Rev: []int{0, 2, 0}}
	if !reflect.DeepEqual(r, want) {
		t.Errorf("%v", r)
	}
	_, r = made(t, sample.Plain(1))
	if !slices.Equal(r.Off, []int{0, 0}) || !slices.Equal(r.RevOff, []int{0, 0}) || len(r.To)+len(r.Rev) != 0 {
		t.Errorf("%v", r)
	}
	for i, g := range []api.Graph{{}, {N: 1}, sample.Plain(2, 1, 0, 0, 1), sample.Plain(2, 0, 1, 0, 1), sample.Plain(2, 0, 2), sample.Plain(201)} {
		if r, e := rows.Make(g); e != api.ErrGraph || !reflect.DeepEqual(r, api.Rows{}) {
			t.Errorf("%d: %v, %d", i, r, e)
		}
	}
}

func TestP4_1Check(t *testing.T) {
	for name, r := range wrong() {
		if rows.Check(r) {
			t.Errorf("%s: right", name)
		}
	}
	if !rows.Check(api.Rows{Off: slices.Repeat([]int{0}, 201), RevOff: slices.Repeat([]int{0}, 201)}) {
		t.Errorf("200 places are right")
	}
	_, r := made(t, sample.Graph(3, 12, 40))
	for i := range r.To {
		for _, w := range []int{-1, 12, (r.To[i] + 1) % 12} {
			bad := copied(r)
			bad.To[i] = w
			if rows.Check(bad) {
				t.Errorf("number %d, %d: right", i, w)
			}
			bad = copied(r)
			bad.Rev[i] = w
			if r.Rev[i] != w && rows.Check(bad) {
				t.Errorf("number %d back, %d: right", i, w)
			}
		}
	}
}

// full are rows of 2001 ways, one more than may be.
func full() api.Rows {
	r := api.Rows{Off: []int{0}}
	for v := range 200 {
		many := 10
		if v == 0 {
			many = 11
		}
		for w := range many {
			r.To = append(r.To, w)
		}
		r.Off = append(r.Off, len(r.To))
	}
	r.RevOff = []int{0}
	for w := range 200 {
		for v := range 200 {
			if w < 10 || w == 10 && v == 0 {
				r.Rev = append(r.Rev, v)
			}
		}
		r.RevOff = append(r.RevOff, len(r.Rev))
	}
	return r
}

func TestP4_1CheckOfMany(t *testing.T) {
	r := full()
	if len(r.To) != 2001 || len(r.Rev) != 2001 || rows.Check(r) {
		t.Errorf("%d ways are right", len(r.To))
	}
	r.To = slices.Delete(r.To, 10, 11)
	for v := 1; v < len(r.Off); v++ {
		r.Off[v]--
	}
	r.Rev = slices.Delete(r.Rev, 2000, 2001)
	for w := 11; w < len(r.RevOff); w++ {
		r.RevOff[w]--
	}
	if len(r.To) != 2000 || !rows.Check(r) {
		t.Errorf("%d ways are not right", len(r.To))
	}
}

func TestP4_2OutInHas(t *testing.T) {
	for seed := range 20 {
		g, r := made(t, sample.Graph(seed, 1+seed, 3*seed))
		for v := range g.N {
			var out, in []int
			for _, e := range g.Edges {
				if e.From == v {
					out = append(out, e.To)
				}
				if e.To == v {
					in = append(in, e.From)
				}
			}
			if l, ok := rows.Out(r, v); !ok || !slices.Equal(l, out) {
				t.Errorf("%d: Out of %d: %v, %v", seed, v, l, ok)
			}
			if l, ok := rows.In(r, v); !ok || !slices.Equal(l, in) {
				t.Errorf("%d: In of %d: %v, %v", seed, v, l, ok)
			}
			for w := -1; w <= g.N; w++ {
				if rows.Has(r, v, w) != slices.Contains(out, w) {
					t.Errorf("%d: Has %d, %d", seed, v, w)
				}
			}
		}
	}
}

func TestP4_2Wrong(t *testing.T) {
	_, r := made(t, sample.Plain(2, 0, 1))
	for _, v := range []int{-1, 2, 1<<63 - 1, -1 << 63} {
		out, ok := rows.Out(r, v)
		in, okin := rows.In(r, v)
		if len(out) != 0 || ok || len(in) != 0 || okin || rows.Has(r, v, 1) || rows.Has(r, 0, v) {
			t.Errorf("%d: %v, %v, %v, %v", v, out, ok, in, okin)
		}
	}
	for name, bad := range wrong() {
		out, ok := rows.Out(bad, 0)
		in, okin := rows.In(bad, 0)
		edges, e := rows.Edges(bad)
		if len(out) != 0 || ok || len(in) != 0 || okin || rows.Has(bad, 0, 0) || rows.Has(bad, 0, 1) || len(edges) != 0 || e != api.ErrRows {
			t.Errorf("%s: %v, %v, %v, %v, %v, %d", name, out, ok, in, okin, edges, e)
		}
	}
}

func TestP4_3WhatFollows(t *testing.T) {
	for seed := range 40 {
		g, r := made(t, sample.Graph(seed, 1+seed*5, seed*11))
		if !rows.Check(r) {
			t.Errorf("%d: not right", seed)
		}
		if l, e := rows.Edges(r); e != api.OK || !slices.Equal(l, g.Edges) {
			t.Errorf("%d: %v, %d", seed, l, e)
		}
		turned, _ := graph.Turned(g)
		_, back := made(t, turned)
		if !slices.Equal(back.Off, r.RevOff) || !slices.Equal(back.To, r.Rev) {
			t.Errorf("%d: In is not Out of what is turned", seed)
		}
	}
}

func TestR2RowsAreNew(t *testing.T) {
	_, r := made(t, sample.Plain(3, 0, 1, 0, 2, 1, 0))
	before := copied(r)
	for v := range 3 {
		out, _ := rows.Out(r, v)
		in, _ := rows.In(r, v)
		for _, l := range [][]int{out, in} {
			l = append(l, 7)
			l[0] = 9
		}
	}
	if !reflect.DeepEqual(r, before) {
		t.Errorf("%v", r)
	}
}
