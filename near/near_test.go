package near_test

import (
	"reflect"
	"slices"
	"testing"

	"wayside/api"
	"wayside/near"
	"wayside/sample"
)

const least, greatest = -1 << 63, 1<<63 - 1

func example() (api.Rows, []api.Posting) {
	g := sample.Plain(3, 0, 1, 1, 2)
	g.Words[0], g.Words[2] = []string{"a"}, []string{"a"}
	_, r, l := sample.Whole(g)
	return r, l
}

// hits works P9.1 out level by level.
func hits(g api.Graph, far [][]int, from int, words []string, radius int) []api.Hit {
	var l []api.Hit
	for d := 0; d <= min(radius, 200); d++ {
		for v := range g.N {
			if far[from][v] == d && sample.Has(g, v, words) {
				l = append(l, api.Hit{V: v, D: d})
			}
		}
	}
	return l
}

func TestP9_1Examples(t *testing.T) {
	r, l := example()
	if h, e := near.Hits(r, l, 0, []string{"a"}, 2); !slices.Equal(h, []api.Hit{{}, {V: 2, D: 2}}) || e != api.OK {
		t.Errorf("%v, %d", h, e)
	}
	if h, e := near.Hits(r, l, 0, []string{"a"}, 1); !slices.Equal(h, []api.Hit{{}}) || e != api.OK {
		t.Errorf("%v, %d", h, e)
	}
	if h, ok, e := near.First(r, l, 1, []string{"a"}); h != (api.Hit{V: 2, D: 1}) || !ok || e != api.OK {
		t.Errorf("%v, %v, %d", h, ok, e)
	}
	if h, ok, e := near.First(r, l, 1, []string{"b"}); h != (api.Hit{}) || ok || e != api.OK {
		t.Errorf("%v, %v, %d", h, ok, e)
	}
	if c, e := near.Count(r, l, []string{"a"}, 1); !slices.Equal(c, []int{1, 1, 1}) || e != api.OK {
		t.Errorf("%v, %d", c, e)
	}
}

func TestP9_1And2OfSamples(t *testing.T) {
	for seed := range 20 {
		g, r, l := sample.Whole(sample.Graph(seed, 2+2*seed, 5*seed))
		far := sample.Levels(g)
		for _, words := range [][]string{{"a"}, {"b", "c"}, {"d", "d", "a"}, {"e"}} {
			for _, radius := range []int{0, 1, 2, 5, 200, greatest} {
				count, e := near.Count(r, l, words, radius)
				if e != api.OK || len(count) != g.N {
					t.Fatalf("%d: %v, %d", seed, count, e)
				}
				for v := range g.N {
					want := hits(g, far, v, words, radius)
					if h, e := near.Hits(r, l, v, words, radius); !slices.Equal(h, want) || e != api.OK {
						t.Errorf("%d: from %d %v in %d: %v, %d, not %v", seed, v, words, radius, h, e, want)
					}
					if count[v] != len(want) {
						t.Errorf("%d: from %d %v in %d: %d, not %d", seed, v, words, radius, count[v], len(want))
					}
				}
			}
			for v := range g.N {
				want := append(hits(g, far, v, words, 200), api.Hit{})
				if h, ok, e := near.First(r, l, v, words); h != want[0] || ok != (len(want) > 1) || e != api.OK {
					t.Errorf("%d: first of %v from %d: %v, %v, %d", seed, words, v, h, ok, e)
				}
			}
		}
	}
}

// Postings that are of more places than there are, or not in order.
func TestP9_1OddPostings(t *testing.T) {
	r, _ := example()
	l := []api.Posting{{Word: "a", Places: []int{2, 7, -1, 0, 2, 3, greatest, least}}, {Word: "", Places: []int{0, 1, 2}}}
	want := []api.Hit{{}, {V: 2, D: 2}}
	if h, e := near.Hits(r, l, 0, []string{"a"}, 9); !slices.Equal(h, want) || e != api.OK {
		t.Errorf("%v, %d", h, e)
	}
	if h, e := near.Hits(r, l, 0, []string{"", "a"}, 9); !slices.Equal(h, want) || e != api.OK {
		t.Errorf("%v, %d", h, e)
	}
	if h, ok, e := near.First(r, l, 1, []string{"a"}); h != (api.Hit{V: 2, D: 1}) || !ok || e != api.OK {
		t.Errorf("%v, %v, %d", h, ok, e)
	}
	if c, e := near.Count(r, l, []string{"a"}, 2); !slices.Equal(c, []int{2, 1, 1}) || e != api.OK {
		t.Errorf("%v, %d", c, e)
	}
}

func TestP9_1And2Wrong(t *testing.T) {
	r, l := example()
	a := []string{"a"}
	for i, x := range []struct {
		r      api.Rows
		from   int
		words  []string
		radius int
		want   api.Errno
	}{
		{api.Rows{}, 0, a, 1, api.ErrRows}, {api.Rows{}, -1, nil, -1, api.ErrRows}, {r, -1, a, 1, api.ErrArg}, {r, 3, a, 1, api.ErrArg},
		{r, greatest, a, 1, api.ErrArg}, {r, least, a, 1, api.ErrArg}, {r, 0, nil, 1, api.ErrArg}, {r, 0, []string{}, 1, api.ErrArg},
		{r, 0, a, -1, api.ErrArg}, {r, 0, a, least, api.ErrArg},
	} {
		if h, e := near.Hits(x.r, l, x.from, x.words, x.radius); len(h) != 0 || e != x.want {
			t.Errorf("%d: Hits: %v, %d", i, h, e)
		}
		if h, ok, e := near.First(x.r, l, x.from, x.words); x.radius > 0 && (h != (api.Hit{}) || ok || e != x.want) {
			t.Errorf("%d: First: %v, %v, %d", i, h, ok, e)
		}
		if c, e := near.Count(x.r, l, x.words, x.radius); x.from == 0 && (len(c) != 0 || e != x.want) {
			t.Errorf("%d: Count: %v, %d", i, c, e)
		}
	}
}

func TestP9_3WhatFollows(t *testing.T) {
	for seed := range 10 {
		g, r, l := sample.Whole(sample.Graph(seed, 20, 30))
		for v := range g.N {
			last := []api.Hit(nil)
			for radius := range 12 {
				h, _ := near.Hits(r, l, v, []string{"a"}, radius)
				if len(h) < len(last) || !slices.Equal(h[:len(last)], last) {
					t.Errorf("%d: %v, then %v", seed, last, h)
				}
				more, _ := near.Hits(r, l, v, []string{"a", "b"}, radius)
				for _, x := range more {
					if !slices.Contains(h, x) {
						t.Errorf("%d: %v with more words", seed, x)
					}
				}
				last = h
			}
		}
	}
}

func TestR2NothingIsChanged(t *testing.T) {
	r, l := example()
	h, _ := near.Hits(r, l, 0, []string{"a"}, 2)
	c, _ := near.Count(r, l, []string{"a"}, 2)
	h[0].V, c[0] = 9, 9
	r2, l2 := example()
	if !reflect.DeepEqual(r, r2) || !reflect.DeepEqual(l, l2) {
		t.Errorf("%v, %v", r, l)
	}
}
