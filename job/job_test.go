package job_test

import (
	"reflect"
	"slices"
	"testing"

	"wayside/api"
	"wayside/job"
	"wayside/label"
	"wayside/sample"
)

const least, greatest = -1 << 63, 1<<63 - 1

func example() (api.Rows, []api.Posting) {
	g := sample.Line(3)
	g.Words[2] = []string{"a"}
	_, r, l := sample.Whole(g)
	return r, l
}

func same(a, b api.Answer) bool {
	return a.Found == b.Found && a.D == b.D && slices.Equal(a.Hits, b.Hits)
}

func near(from, radius, most int, words ...string) api.Query {
	return api.Query{Kind: 3, From: from, Words: words, Radius: radius, Most: most}
}

// answer works out what a query has to be told, from all levels.
func answer(q api.Query, g api.Graph, far [][]int) api.Answer {
	if q.Kind < 3 {
		d := far[q.From][q.To]
		if d < 0 || q.Kind == 2 {
			return api.Answer{Found: d >= 0}
		}
		return api.Answer{Found: true, D: d}
	}
	var a api.Answer
	for d := 0; d <= q.Radius; d++ {
		for v := range g.N {
			if far[q.From][v] == d && sample.Has(g, v, q.Words) && len(a.Hits) < q.Most {
				a.Hits = append(a.Hits, api.Hit{V: v, D: d})
			}
		}
	}
	a.Found = len(a.Hits) > 0
	return a
}

// queries are some of g's places.
func queries(seed int, g api.Graph) []api.Query {
	r := sample.New(seed)
	var l []api.Query
	for range 12 {
		l = append(l, api.Query{Kind: 1, From: r.Below(g.N), To: r.Below(g.N)}, api.Query{Kind: 2, From: r.Below(g.N), To: r.Below(g.N)})
		words := [][]string{{"a"}, {"b", "c"}, {"d", "d"}, {"e"}}[r.Below(4)]
		l = append(l, near(r.Below(g.N), r.Below(6)*r.Below(6), 1+r.Below(5), words...))
	}
	return l
}

func TestP20_1Examples(t *testing.T) {
	r, l := example()
	for i, x := range []struct {
		q             api.Query
		budget, steps int
		want          api.Answer
		e             api.Errno
	}{
		{api.Query{Kind: 1, To: 2}, 9, 2, api.Answer{Found: true, D: 2}, api.OK}, {api.Query{Kind: 1, From: 2}, 9, 1, api.Answer{}, api.OK},
		{near(0, 2, 5, "a"), 9, 3, api.Answer{Found: true, Hits: []api.Hit{{V: 2, D: 2}}}, api.OK}, {api.Query{Kind: 2, To: 2}, 2, 2, api.Answer{}, api.ErrBudget},
		{api.Query{Kind: 2, To: 2}, 3, 3, api.Answer{Found: true}, api.OK}, {api.Query{Kind: 1, To: 2}, 1, 1, api.Answer{}, api.ErrBudget},
		{api.Query{Kind: 1, From: 1, To: 1}, 1, 1, api.Answer{Found: true}, api.OK}, {api.Query{Kind: 2, From: 2}, greatest, 1, api.Answer{}, api.OK},
		{near(0, 1, 5, "a"), 9, 2, api.Answer{}, api.OK}, {near(0, 0, 5, "a"), 9, 1, api.Answer{}, api.OK},
	} {
		if a, n, e := job.Run(x.q, r, l, 2, x.budget, []int{1}); !same(a, x.want) || n != x.steps || e != x.e {
			t.Errorf("%d: %v, %d, %d", i, a, n, e)
		}
	}
}

func TestP20Wrong(t *testing.T) {
	r, l := example()
	h, _ := label.Build(r)
	q := api.Query{Kind: 1, To: 2}
	for i, x := range []struct {
		q               api.Query
		r               api.Rows
		workers, budget int
		want            api.Errno
	}{
		{api.Query{}, api.Rows{}, 0, 0, api.ErrRows}, {api.Query{}, r, 0, 0, api.ErrQuery}, {api.Query{Kind: 1, To: 3}, r, 1, 1, api.ErrQuery}, {near(0, 1, 1), r, 1, 1, api.ErrQuery},
		{q, r, 0, 1, api.ErrArg}, {q, r, 17, 1, api.ErrArg}, {q, r, -1, 1, api.ErrArg}, {q, r, 1, 0, api.ErrArg}, {q, r, 1, -1, api.ErrArg}, {q, r, least, least, api.ErrArg}, {q, r, greatest, 1, api.ErrArg},
	} {
		if a, n, e := job.Run(x.q, x.r, l, x.workers, x.budget, nil); !same(a, api.Answer{}) || n != 0 || e != x.want {
			t.Errorf("%d: Run: %v, %d, %d", i, a, n, e)
		}
		if a, e := job.Ask(x.q, x.r, l); x.want != api.ErrArg && (!same(a, api.Answer{}) || e != x.want) {
			t.Errorf("%d: Ask: %v, %d", i, a, e)
		}
		if a, e := job.ByHubs(x.q, h); x.want == api.ErrQuery && (!same(a, api.Answer{}) || e != x.want) {
			t.Errorf("%d: ByHubs: %v, %d", i, a, e)
		}
	}
	for _, q := range []api.Query{q, {}, near(0, 1, 1, "a")} {
		if a, e := job.ByHubs(q, api.Labels{Out: h.Out}); !same(a, api.Answer{}) || e != api.ErrArg {
			t.Errorf("%v: %v, %d", q, a, e)
		}
	}
	if a, e := job.ByHubs(near(0, 1, 1, "a"), h); !same(a, api.Answer{}) || e != api.ErrQuery {
		t.Errorf("kind 3 by hubs: %v, %d", a, e)
	}
}

func TestP20_2And3OfSamples(t *testing.T) {
	for seed := range 25 {
		g, r, l := sample.Whole(sample.Graph(seed, 1+2*seed, 3*seed))
		far := sample.Levels(g)
		h, _ := label.Build(r)
		for _, q := range queries(seed, g) {
			want := answer(q, g, far)
			if a, e := job.Ask(q, r, l); !same(a, want) || e != api.OK {
				t.Errorf("%d: Ask %v: %v, %d, not %v", seed, q, a, e, want)
			}
			a, e := job.ByHubs(q, h)
			if q.Kind < 3 && (!same(a, want) || e != api.OK) || q.Kind == 3 && (!same(a, api.Answer{}) || e != api.ErrQuery) {
				t.Errorf("%d: ByHubs %v: %v, %d, not %v", seed, q, a, e, want)
			}
		}
	}
}

// By labels alone, whatever they are of.
func TestP20_3OddLabels(t *testing.T) {
	h := api.Labels{Out: [][]api.Hit{{{V: 1, D: 200}}, nil}, In: [][]api.Hit{nil, {{V: 1, D: 199}}}}
	for i, x := range []struct {
		q    api.Query
		want api.Answer
	}{
		{api.Query{Kind: 1, To: 1}, api.Answer{Found: true, D: 399}}, {api.Query{Kind: 2, To: 1}, api.Answer{Found: true}}, {api.Query{Kind: 1}, api.Answer{}}, {api.Query{Kind: 2, From: 1}, api.Answer{}},
	} {
		if a, e := job.ByHubs(x.q, h); !same(a, x.want) || e != api.OK {
			t.Errorf("%d: %v, %d", i, a, e)
		}
	}
}

func TestP20_4WhatFollows(t *testing.T) {
	for seed := range 15 {
		g, r, l := sample.Whole(sample.Graph(seed, 2+2*seed, 3*seed))
		far := sample.Levels(g)
		row := sample.New(seed)
		for _, q := range queries(seed, g) {
			want := answer(q, g, far)
			_, most, _ := job.Run(q, r, l, 1, g.N+2, nil)
			for workers := 1; workers <= 16; workers += 3 {
				if a, n, e := job.Run(q, r, l, workers, g.N+2, row.Picks(9)); !same(a, want) || n != most || e != api.OK {
					t.Fatalf("%d: Run %v: %v, %d, %d, not %v, %d", seed, q, a, n, e, want, most)
				}
			}
			for budget := 1; budget < most; budget++ {
				if a, n, e := job.Run(q, r, l, 3, budget, row.Picks(3)); !same(a, api.Answer{}) || n != budget || e != api.ErrBudget {
					t.Errorf("%d: Run %v of budget %d: %v, %d, %d", seed, q, budget, a, n, e)
				}
			}
		}
	}
	_, r, l := sample.Whole(sample.Line(200))
	if a, n, e := job.Run(api.Query{Kind: 2, To: 199}, r, l, 16, 202, nil); !a.Found || n != 200 || e != api.OK {
		t.Errorf("%v, %d, %d", a, n, e)
	}
}

func TestR2NothingShared(t *testing.T) {
	r, l := example()
	picks := []int{3, 1}
	q := near(0, 2, 5, "a")
	a, _, _ := job.Run(q, r, l, 2, 9, picks)
	b, _ := job.Ask(q, r, l)
	a.Hits[0].D, b.Hits[0].D = 9, 9
	r2, l2 := example()
	if !reflect.DeepEqual(r, r2) || !reflect.DeepEqual(l, l2) || !slices.Equal(picks, []int{3, 1}) || q.Words[0] != "a" {
		t.Errorf("%v, %v, %v", r, l, picks)
	}
}
