package need_test

import (
	"slices"
	"testing"

	"wayside/api"
	"wayside/job"
	"wayside/need"
	"wayside/prog"
	"wayside/round"
	"wayside/sample"
)

const least, greatest = -1 << 63, 1<<63 - 1

func queries(g api.Graph, seed int) []api.Query {
	r := sample.New(seed)
	var l []api.Query
	for kind := 1; kind <= 3; kind++ {
		for range 4 {
			l = append(l, api.Query{Kind: kind, From: r.Below(g.N), To: r.Below(g.N), Words: []string{"a"}, Radius: r.Below(9), Most: 3})
		}
	}
	return l
}

func same(a, b [][]int) bool { return slices.EqualFunc(a, b, slices.Equal[[]int]) }

func TestP21_1Steps(t *testing.T) {
	_, r, l := sample.Whole(sample.Line(3))
	if got, e := need.Steps(api.Query{Kind: 2, To: 2}, r, l, 2); !same(got, [][]int{{0, 1}, {1, 1}, {1, 2}}) || e != api.OK {
		t.Errorf("%v, %d", got, e)
	}
	for seed := range 15 {
		g, r, l := sample.Whole(sample.Graph(seed, 2+3*seed, 6*seed))
		for _, q := range queries(g, seed) {
			for _, workers := range []int{1, 2, 7, 16} {
				_, steps, _ := job.Run(q, r, l, workers, 1000, nil)
				var want [][]int
				states, mails := []api.State(nil), prog.Start(q, 0)
				for range steps {
					states, mails, _ = round.Step(q, r, states, mails, workers, nil)
					many, _ := round.Each(states, workers)
					want = append(want, many)
				}
				if got, e := need.Steps(q, r, l, workers); !same(got, want) || e != api.OK {
					t.Errorf("%d: %v: %v, %d, not %v", seed, q, got, e, want)
				}
				if got, e := need.Most(q, r, l, workers); !slices.Equal(got, want[steps-1]) || e != api.OK {
					t.Errorf("%d: %v: %v, %d, not %v", seed, q, got, e, want[steps-1])
				}
			}
		}
	}
	_, r, l = sample.Whole(sample.Line(200))
	if got, e := need.Steps(api.Query{Kind: 2, To: 199}, r, l, 1); len(got) != 200 || got[199][0] != 200 || e != api.OK {
		t.Errorf("%d steps, %d", len(got), e)
	}
}

func TestP21_1And2Wrong(t *testing.T) {
	_, r, l := sample.Whole(sample.Line(3))
	q := api.Query{Kind: 1}
	for i, x := range []struct {
		q       api.Query
		r       api.Rows
		workers int
		want    api.Errno
	}{
		{api.Query{}, api.Rows{}, 0, api.ErrRows}, {api.Query{}, r, 0, api.ErrQuery}, {api.Query{Kind: 1, To: 3}, r, 1, api.ErrQuery},
		{q, r, 0, api.ErrArg}, {q, r, -1, api.ErrArg}, {q, r, 17, api.ErrArg}, {q, r, least, api.ErrArg}, {q, r, greatest, api.ErrArg},
	} {
		steps, e := need.Steps(x.q, x.r, l, x.workers)
		most, f := need.Most(x.q, x.r, l, x.workers)
		if len(steps)+len(most) != 0 || e != x.want || f != x.want {
			t.Errorf("%d: %v, %d, %v, %d", i, steps, e, most, f)
		}
	}
}

func TestP21_2Sum(t *testing.T) {
	for i, x := range []struct {
		l    [][]int
		want []int
	}{
		{nil, nil}, {[][]int{nil, {}}, nil}, {[][]int{{1, 2}}, []int{1, 2}}, {[][]int{{1, 2}, {3}, {0, 0, -4}}, []int{4, 2, -4}}, {[][]int{{1}, {3, 5, 7}, {1, 1}}, []int{5, 6, 7}},
	} {
		if got := need.Sum(x.l); !slices.Equal(got, x.want) {
			t.Errorf("%d: %v", i, got)
		}
	}
}

func TestP21_3Fits(t *testing.T) {
	for _, x := range []struct {
		need, free []int
		is         bool
	}{
		{[]int{1, 2}, []int{1, 2}, true}, {[]int{1, 2}, []int{2, 1}, false}, {[]int{1}, nil, false}, {nil, nil, true}, {nil, []int{-1}, true}, {[]int{1}, []int{1, -9}, true},
		{[]int{0, 0}, []int{0}, false}, {[]int{-1, least}, []int{-1, least}, true}, {[]int{0}, []int{-1}, false}, {[]int{greatest}, []int{greatest}, true}, {[]int{0, 3}, []int{9, 2}, false},
	} {
		if need.Fits(x.need, x.free) != x.is {
			t.Errorf("%v, %v: %v", x.need, x.free, !x.is)
		}
	}
}

func TestP21_4WhatFollows(t *testing.T) {
	total := func(l []int) int {
		sum := 0
		for _, n := range l {
			sum += n
		}
		return sum
	}
	for seed := range 12 {
		g, r, l := sample.Whole(sample.Graph(seed, 2+4*seed, 9*seed))
		for _, q := range queries(g, seed) {
			alone, _ := need.Most(q, r, l, 1)
			for workers := 1; workers <= 16; workers += 5 {
				steps, _ := need.Steps(q, r, l, workers)
				for i := 1; i < len(steps); i++ {
					if !need.Fits(steps[i-1], steps[i]) {
						t.Errorf("%d: %v, then %v", seed, steps[i-1], steps[i])
					}
				}
				most, _ := need.Most(q, r, l, workers)
				if len(most) != workers || total(most) > 2*g.N || total(most) != alone[0] {
					t.Errorf("%d: %v of %d workers, %v of one", seed, most, workers, alone)
				}
			}
		}
	}
}

func TestR2NothingShared(t *testing.T) {
	l := [][]int{{1, 2}}
	need.Sum(l)[0] = 9
	l2 := [][]int{{1, 2}, nil}
	need.Sum(l2)[0] = 9
	if l[0][0] != 1 || l2[0][0] != 1 {
		t.Errorf("%v, %v", l, l2)
	}
}
