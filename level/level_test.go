package level_test

import (
	"slices"
	"testing"

	"wayside/api"
	"wayside/level"
	"wayside/rows"
	"wayside/sample"
)

const least, greatest = -1 << 63, 1<<63 - 1

func example() api.Rows {
	_, r := sample.Rows(sample.Plain(4, 0, 1, 1, 2, 0, 2, 3, 0))
	return r
}

// column tells how far v is from each place.
func column(far [][]int, v int) []int {
	var l []int
	for _, row := range far {
		l = append(l, row[v])
	}
	return l
}

// within tells the places whose level is from 0 to radius.
func within(levels []int, radius int) []int {
	var l []int
	for v, d := range levels {
		if d >= 0 && d <= radius {
			l = append(l, v)
		}
	}
	return l
}

func TestP7_1Levels(t *testing.T) {
	if l, e := level.Levels(example(), 0, false); !slices.Equal(l, []int{0, 1, 1, -1}) || e != api.OK {
		t.Errorf("%v, %d", l, e)
	}
	if l, e := level.Levels(example(), 0, true); !slices.Equal(l, []int{0, -1, -1, 1}) || e != api.OK {
		t.Errorf("%v, %d", l, e)
	}
	_, r := sample.Rows(sample.Line(200))
	if l, _ := level.Levels(r, 0, false); l[199] != 199 {
		t.Errorf("the end of 200 places in a row: %d", l[199])
	}
	for seed := range 30 {
		g, r := sample.Rows(sample.Graph(seed, 1+seed, 2*seed))
		far := sample.Levels(g)
		for v := range g.N {
			if l, e := level.Levels(r, v, false); !slices.Equal(l, far[v]) || e != api.OK {
				t.Errorf("%d: from %d: %v, %d, not %v", seed, v, l, e, far[v])
			}
			if l, e := level.Levels(r, v, true); !slices.Equal(l, column(far, v)) || e != api.OK {
				t.Errorf("%d: from %d back: %v, %d", seed, v, l, e)
			}
		}
	}
}

func TestP7_1ReachAndBall(t *testing.T) {
	if l, e := level.Ball(example(), 3, 1, false); !slices.Equal(l, []int{0, 3}) || e != api.OK {
		t.Errorf("%v, %d", l, e)
	}
	for seed := range 20 {
		g, r := sample.Rows(sample.Graph(seed, 1+seed, 2*seed))
		far := sample.Levels(g)
		for v := range g.N {
			for _, back := range []bool{false, true} {
				levels := far[v]
				if back {
					levels = column(far, v)
				}
				if l, e := level.Reach(r, v, back); !slices.Equal(l, within(levels, 200)) || e != api.OK {
					t.Errorf("%d: Reach of %d: %v, %d", seed, v, l, e)
				}
				for _, radius := range []int{0, 1, 2, 3, 199, 200, greatest} {
					if l, e := level.Ball(r, v, radius, back); !slices.Equal(l, within(levels, radius)) || e != api.OK {
						t.Errorf("%d: Ball of %d, %d: %v, %d", seed, v, radius, l, e)
					}
				}
			}
		}
	}
}

func TestP7_1Wrong(t *testing.T) {
	for _, back := range []bool{false, true} {
		for _, x := range []struct {
			r    api.Rows
			from int
			want api.Errno
		}{{api.Rows{}, 0, api.ErrRows}, {api.Rows{}, -1, api.ErrRows}, {example(), -1, api.ErrArg}, {example(), 4, api.ErrArg}, {example(), greatest, api.ErrArg}, {example(), least, api.ErrArg}} {
			levels, e := level.Levels(x.r, x.from, back)
			reach, f := level.Reach(x.r, x.from, back)
			ball, g := level.Ball(x.r, x.from, 1, back)
			if len(levels)+len(reach)+len(ball) != 0 || e != x.want || f != x.want || g != x.want {
				t.Errorf("from %d: %d, %d, %d", x.from, e, f, g)
			}
		}
		for _, radius := range []int{-1, least} {
			if l, e := level.Ball(example(), 0, radius, back); len(l) != 0 || e != api.ErrArg {
				t.Errorf("%d: %v, %d", radius, l, e)
			}
		}
	}
	if _, e := level.Ball(api.Rows{}, 9, -1, false); e != api.ErrRows {
		t.Errorf("no rows, no radius: %d", e)
	}
}

func TestP7_2Front(t *testing.T) {
	loop := func() api.Rows { _, r := sample.Rows(sample.Plain(2, 0, 0, 0, 1)); return r }()
	for i, x := range []struct {
		r    api.Rows
		l    []int
		back bool
		want []int
		e    api.Errno
	}{
		{example(), []int{0, 1}, false, []int{1, 2}, api.OK}, {example(), []int{3, 0, 3}, false, []int{0, 1, 2}, api.OK},
		{example(), []int{2}, true, []int{0, 1}, api.OK}, {example(), []int{2, 0, 1}, true, []int{0, 1, 3}, api.OK},
		{example(), nil, false, nil, api.OK}, {example(), []int{2}, false, nil, api.OK}, {loop, []int{0}, false, []int{0, 1}, api.OK},
		{example(), []int{0, 4}, false, nil, api.ErrArg}, {example(), []int{-1}, true, nil, api.ErrArg},
		{api.Rows{}, []int{-1}, true, nil, api.ErrRows}, {api.Rows{}, nil, false, nil, api.ErrRows},
	} {
		if l, e := level.Front(x.r, x.l, x.back); !slices.Equal(l, x.want) || e != x.e {
			t.Errorf("%d: %v, %d", i, l, e)
		}
	}
}

func TestP7_3WhatFollows(t *testing.T) {
	for seed := range 20 {
		g, r := sample.Rows(sample.Graph(seed, 2+2*seed, 3*seed))
		for v := range g.N {
			levels, _ := level.Levels(r, v, false)
			for _, e := range g.Edges {
				if a, b := levels[e.From], levels[e.To]; a >= 0 && (b < 0 || b > a+1) {
					t.Errorf("%d: a way from level %d to %d", seed, a, b)
				}
			}
			for w, d := range levels {
				back, _ := level.Levels(r, w, true)
				if back[v] != d {
					t.Errorf("%d: from %d to %d: %d, back %d", seed, v, w, d, back[v])
				}
				in, _ := rows.In(r, w)
				if d > 0 && !slices.ContainsFunc(in, func(u int) bool { return levels[u] == d-1 }) {
					t.Errorf("%d: none leads to %d", seed, w)
				}
			}
			for radius := 1; radius < 4; radius++ {
				less, _ := level.Ball(r, v, radius-1, false)
				front, _ := level.Front(r, less, false)
				both := slices.Concat(less, front)
				slices.Sort(both)
				if ball, _ := level.Ball(r, v, radius, false); !slices.Equal(ball, slices.Compact(both)) {
					t.Errorf("%d: ball of %d, %d", seed, v, radius)
				}
			}
		}
	}
}

func TestR2NothingIsChanged(t *testing.T) {
	r, l := example(), []int{1, 0}
	front, _ := level.Front(r, l, false)
	front[0] = 9
	levels, _ := level.Levels(r, 0, false)
	levels[0] = 9
	if again, _ := level.Levels(r, 0, false); again[0] != 0 || !slices.Equal(l, []int{1, 0}) || !slices.Equal(r.To, example().To) {
		t.Errorf("%v, %v, %v", again, l, r.To)
	}
}
