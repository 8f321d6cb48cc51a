package dist_test

import (
	"slices"
	"testing"

	"wayside/api"
	"wayside/dist"
	"wayside/sample"
)

const least, greatest = -1 << 63, 1<<63 - 1

func example() api.Rows {
	_, r := sample.Rows(sample.Plain(5, 0, 1, 0, 2, 1, 3, 2, 3, 3, 4))
	return r
}

// steps works P8.2 out as it is told, from all levels.
func steps(far [][]int, from, to int) int {
	for k := 0; ; k++ {
		for v := range far {
			if a, b := far[from][v], far[v][to]; a >= 0 && a <= k && b >= 0 && b <= k {
				return k
			}
		}
		if far[from][to] >= 0 {
			continue
		}
		out, in := false, false
		for v := range far {
			out, in = out || far[from][v] == k+1, in || far[v][to] == k+1
		}
		if !out || !in {
			return k
		}
	}
}

func TestP8_1Dist(t *testing.T) {
	if d, ok, e := dist.Dist(example(), 0, 4); d != 3 || !ok || e != api.OK {
		t.Errorf("%d, %v, %d", d, ok, e)
	}
	if d, ok, e := dist.Dist(example(), 4, 0); d != 0 || ok || e != api.OK {
		t.Errorf("%d, %v, %d", d, ok, e)
	}
	for seed := range 40 {
		g, r := sample.Rows(sample.Graph(seed, 1+seed, 3*seed/2))
		far := sample.Levels(g)
		for v := range g.N {
			for w := range g.N {
				d, ok, e := dist.Dist(r, v, w)
				if e != api.OK || ok != (far[v][w] >= 0) || ok && d != far[v][w] || !ok && d != 0 {
					t.Errorf("%d: %d to %d: %d, %v, %d", seed, v, w, d, ok, e)
				}
			}
		}
	}
}

func TestP8_2Steps(t *testing.T) {
	if k, e := dist.Steps(example(), 0, 4); k != 2 || e != api.OK {
		t.Errorf("%d, %d", k, e)
	}
	_, line := sample.Rows(sample.Line(200))
	for _, x := range [][3]int{{0, 199, 100}, {0, 2, 1}, {0, 1, 1}, {5, 5, 0}, {199, 0, 0}, {3, 2, 2}, {195, 190, 4}} {
		if k, e := dist.Steps(line, x[0], x[1]); k != x[2] || e != api.OK {
			t.Errorf("%v: %d, %d", x, k, e)
		}
	}
	for seed := range 40 {
		g, r := sample.Rows(sample.Graph(seed, 1+seed, 3*seed/2))
		far := sample.Levels(g)
		for v := range g.N {
			for w := range g.N {
				if k, e := dist.Steps(r, v, w); k != steps(far, v, w) || e != api.OK {
					t.Errorf("%d: %d to %d: %d, %d, not %d", seed, v, w, k, e, steps(far, v, w))
				}
			}
		}
	}
}

func TestP8Wrong(t *testing.T) {
	for _, x := range []struct {
		r        api.Rows
		from, to int
		want     api.Errno
	}{
		{api.Rows{}, 0, 0, api.ErrRows}, {api.Rows{}, -1, 9, api.ErrRows}, {example(), -1, 0, api.ErrArg}, {example(), 0, -1, api.ErrArg},
		{example(), 5, 0, api.ErrArg}, {example(), 0, 5, api.ErrArg}, {example(), greatest, least, api.ErrArg},
	} {
		d, ok, e := dist.Dist(x.r, x.from, x.to)
		k, f := dist.Steps(x.r, x.from, x.to)
		l, is, g := dist.Path(x.r, x.from, x.to)
		if d != 0 || ok || e != x.want || k != 0 || f != x.want || len(l) != 0 || is || g != x.want {
			t.Errorf("%d to %d: %d, %d, %d", x.from, x.to, e, f, g)
		}
	}
}

func TestP8_3Path(t *testing.T) {
	if l, ok, e := dist.Path(example(), 0, 4); !slices.Equal(l, []int{0, 1, 3, 4}) || !ok || e != api.OK {
		t.Errorf("%v, %v, %d", l, ok, e)
	}
	if l, ok, e := dist.Path(example(), 4, 0); len(l) != 0 || ok || e != api.OK {
		t.Errorf("%v, %v, %d", l, ok, e)
	}
	if l, ok, e := dist.Path(example(), 2, 2); !slices.Equal(l, []int{2}) || !ok || e != api.OK {
		t.Errorf("%v, %v, %d", l, ok, e)
	}
	// 0 comes by 1, though 1 itself has the greater next place.
	_, r := sample.Rows(sample.Plain(6, 0, 1, 0, 2, 1, 4, 2, 3, 3, 5, 4, 5))
	if l, _, _ := dist.Path(r, 0, 5); !slices.Equal(l, []int{0, 1, 4, 5}) {
		t.Errorf("%v", l)
	}
	for seed := range 20 {
		g, r := sample.Rows(sample.Graph(seed, 2+seed/2, 2*seed))
		far := sample.Levels(g)
		for v := range g.N {
			for w := range g.N {
				l, ok, _ := dist.Path(r, v, w)
				if want := lesser(g, far, v, w); ok != (want != nil) || !slices.Equal(l, want) {
					t.Errorf("%d: %d to %d: %v, not %v", seed, v, w, l, want)
				}
			}
		}
	}
}

// lesser tries all walks that are as short as may be, and tells the least one.
func lesser(g api.Graph, far [][]int, v, w int) []int {
	if far[v][w] < 0 {
		return nil
	}
	if v == w {
		return []int{v}
	}
	var best []int
	for _, e := range g.Edges {
		if e.From != v || far[e.To][w] != far[v][w]-1 {
			continue
		}
		l := append([]int{v}, lesser(g, far, e.To, w)...)
		if best == nil || slices.Compare(l, best) < 0 {
			best = l
		}
	}
	return best
}

func TestP8_3Walk(t *testing.T) {
	for _, x := range []struct {
		r  api.Rows
		l  []int
		is bool
	}{
		{example(), []int{0, 1, 3, 4}, true}, {example(), []int{2}, true}, {example(), []int{0, 2, 3}, true}, {example(), nil, false},
		{example(), []int{1, 0}, false}, {example(), []int{0, 3}, false}, {example(), []int{0, 0}, false}, {example(), []int{5}, false},
		{example(), []int{-1}, false}, {example(), []int{3, 4, 5}, false}, {example(), []int{0, 1, 3, -1}, false}, {api.Rows{}, []int{0}, false}, {api.Rows{}, nil, false},
	} {
		if dist.Walk(x.r, x.l) != x.is {
			t.Errorf("%v: %v", x.l, !x.is)
		}
	}
	_, loop := sample.Rows(sample.Plain(2, 0, 0, 0, 1, 1, 0))
	if !dist.Walk(loop, []int{0, 0, 1, 0, 1, 0, 0}) {
		t.Errorf("places may come again")
	}
}

func TestP8_4WhatFollows(t *testing.T) {
	for seed := range 15 {
		g, r := sample.Rows(sample.Graph(seed, 3+2*seed, 4*seed))
		for v := range g.N {
			for w := range g.N {
				l, ok, _ := dist.Path(r, v, w)
				if !ok {
					continue
				}
				d, _, _ := dist.Dist(r, v, w)
				k, _ := dist.Steps(r, v, w)
				if d != 2*k && d != 2*k-1 || len(l) != d+1 || l[0] != v || l[d] != w || !dist.Walk(r, l) {
					t.Errorf("%d: %v, Dist %d, Steps %d", seed, l, d, k)
				}
				sorted := slices.Clone(l)
				slices.Sort(sorted)
				if len(slices.Compact(sorted)) != len(l) {
					t.Errorf("%d: %v comes by a place twice", seed, l)
				}
				for i := range l {
					if end, _, _ := dist.Path(r, l[i], w); !slices.Equal(end, l[i:]) {
						t.Errorf("%d: the end %v of %v is no path", seed, l[i:], l)
					}
				}
			}
		}
	}
}

func TestR2NothingIsChanged(t *testing.T) {
	r := example()
	l, _, _ := dist.Path(r, 0, 4)
	l[0], l[1] = 9, 9
	walk := []int{0, 1}
	dist.Walk(r, walk)
	if again, _, _ := dist.Path(r, 0, 4); again[0] != 0 || !slices.Equal(r.To, example().To) || !slices.Equal(walk, []int{0, 1}) {
		t.Errorf("%v, %v", again, r)
	}
}
