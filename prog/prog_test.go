package prog_test

import (
	"reflect"
	"slices"
	"testing"

	"wayside/api"
	"wayside/graph"
	"wayside/posting"
	"wayside/prog"
	"wayside/rows"
	"wayside/sample"
)

const least, greatest = -1 << 63, 1<<63 - 1

func example() (api.Rows, []api.Posting) {
	g := sample.Plain(4, 0, 1, 0, 2, 1, 3, 2, 3, 3, 3)
	g.Words = [][]string{{"a"}, {"a", "b"}, {"b"}, {"a", "b"}}
	n, _ := graph.Normal(g)
	r, _ := rows.Make(n)
	l, _ := posting.Make(n)
	return r, l
}

func near(words ...string) api.Query {
	return api.Query{Kind: 3, Words: words, Radius: 2, Most: 5}
}

func TestP18_1Check(t *testing.T) {
	eight := []string{"a", "b", "c", "d", "a", "b", "c", "abcdefghijkl"}
	for i, x := range []struct {
		q    api.Query
		n    int
		want api.Errno
	}{
		{api.Query{Kind: 1}, 1, api.OK}, {api.Query{Kind: 2, From: 4, To: 4}, 5, api.OK}, {api.Query{Kind: 1, From: 999, To: 3}, 1000, api.OK},
		{api.Query{Kind: 1, Words: []string{"A"}, Radius: -1, Most: -1}, 1, api.OK}, {api.Query{Kind: 2, Radius: least, Most: greatest}, 1, api.OK},
		{api.Query{Kind: 3, To: -5, Words: eight, Radius: 200, Most: 100}, 1, api.OK}, {api.Query{Kind: 3, Words: []string{"a"}, Most: 1}, 1, api.OK},
		{api.Query{}, 1, api.ErrQuery}, {api.Query{Kind: 4}, 1, api.ErrQuery}, {api.Query{Kind: -1}, 1, api.ErrQuery}, {api.Query{Kind: least}, 1, api.ErrQuery},
		{api.Query{Kind: 1, From: 1}, 1, api.ErrQuery}, {api.Query{Kind: 1, To: 1}, 1, api.ErrQuery}, {api.Query{Kind: 2, From: -1}, 1, api.ErrQuery},
		{api.Query{Kind: 2, To: -1}, 1, api.ErrQuery}, {api.Query{Kind: 1}, 0, api.ErrQuery}, {api.Query{Kind: 2}, -1, api.ErrQuery}, {api.Query{Kind: 1, From: greatest}, greatest, api.ErrQuery},
		{api.Query{Kind: 3, From: 1, Words: eight, Most: 1}, 1, api.ErrQuery}, {api.Query{Kind: 3, From: -1, Words: eight, Most: 1}, 1, api.ErrQuery},
		{api.Query{Kind: 3, Most: 1}, 1, api.ErrQuery}, {api.Query{Kind: 3, Words: append(eight, "a"), Most: 1}, 1, api.ErrQuery},
		{api.Query{Kind: 3, Words: []string{"a", ""}, Most: 1}, 1, api.ErrQuery}, {api.Query{Kind: 3, Words: []string{"B"}, Most: 1}, 1, api.ErrQuery},
		{api.Query{Kind: 3, Words: eight, Radius: -1, Most: 1}, 1, api.ErrQuery}, {api.Query{Kind: 3, Words: eight, Radius: 201, Most: 1}, 1, api.ErrQuery},
		{api.Query{Kind: 3, Words: eight}, 1, api.ErrQuery}, {api.Query{Kind: 3, Words: eight, Most: 101}, 1, api.ErrQuery},
	} {
		if e := prog.Check(x.q, x.n); e != x.want {
			t.Errorf("%d: %d", i, e)
		}
	}
}

func TestP18_1Start(t *testing.T) {
	for i, x := range []struct {
		q    api.Query
		slot int
		want []api.Mail
	}{
		{api.Query{Kind: 1, From: 2, To: 5}, 4, []api.Mail{sample.Mail(4, 0, 2, 0), sample.Mail(4, 1, 5, 0)}}, {api.Query{Kind: 2, From: 2, To: 5}, 4, []api.Mail{sample.Mail(4, 0, 2, 0)}},
		{api.Query{Kind: 3, From: 2}, 4, []api.Mail{sample.Mail(4, 0, 2, 0)}}, {api.Query{From: 2, To: 5}, 4, nil}, {api.Query{Kind: 4, From: 2, To: 5}, 4, nil},
		{api.Query{Kind: -1}, 4, nil}, {api.Query{Kind: 1, From: least, To: greatest}, -7, []api.Mail{sample.Mail(-7, 0, least, 0), sample.Mail(-7, 1, greatest, 0)}},
	} {
		if l := prog.Start(x.q, x.slot); !slices.Equal(l, x.want) {
			t.Errorf("%d: %v", i, l)
		}
	}
}

func TestP18_2Next(t *testing.T) {
	r, _ := example()
	for i, x := range []struct {
		q    api.Query
		r    api.Rows
		x    api.State
		want []api.Mail
		e    api.Errno
	}{
		{api.Query{Kind: 1}, r, sample.State(9, 0, 0, 5), []api.Mail{sample.Mail(9, 0, 1, 6), sample.Mail(9, 0, 2, 6)}, api.OK},
		{api.Query{Kind: 2}, r, sample.State(greatest, 1, 3, 200), []api.Mail{sample.Mail(greatest, 1, 1, 201), sample.Mail(greatest, 1, 2, 201), sample.Mail(greatest, 1, 3, 201)}, api.OK},
		{api.Query{Kind: 7}, r, sample.State(least, 0, 3, 0), []api.Mail{sample.Mail(least, 0, 3, 1)}, api.OK}, {api.Query{Kind: 1}, r, sample.State(0, 1, 0, 0), nil, api.OK},
		{near("a"), r, sample.State(1, 0, 1, 1), []api.Mail{sample.Mail(1, 0, 3, 2)}, api.OK}, {near("a"), r, sample.State(1, 0, 1, 2), nil, api.OK}, {near("a"), r, sample.State(1, 0, 1, 3), nil, api.OK},
		{near("a"), r, sample.State(1, 1, 1, 0), []api.Mail{sample.Mail(1, 1, 0, 1)}, api.OK}, {api.Query{Kind: 2, Radius: 1}, r, sample.State(1, 0, 1, 2), []api.Mail{sample.Mail(1, 0, 3, 3)}, api.OK},
		{near("a"), api.Rows{}, sample.State(1, 7, -1, -1), nil, api.ErrRows}, {near("a"), r, sample.State(0, -1, 0, 0), nil, api.ErrArg}, {near("a"), r, sample.State(0, 2, 0, 5), nil, api.ErrArg},
		{near("a"), r, sample.State(0, 0, -1, 0), nil, api.ErrArg}, {near("a"), r, sample.State(0, 0, 4, 9), nil, api.ErrArg}, {near("a"), r, sample.State(0, 1, greatest, 9), nil, api.ErrArg},
		{near("a"), r, sample.State(0, 0, 0, -1), nil, api.ErrArg}, {near("a"), r, sample.State(0, 0, 0, 201), nil, api.ErrArg}, {api.Query{Kind: 1}, r, sample.State(0, 0, 0, least), nil, api.ErrArg},
	} {
		if l, e := prog.Next(x.q, x.r, x.x); !slices.Equal(l, x.want) || e != x.e {
			t.Errorf("%d: %v, %d", i, l, e)
		}
	}
}

type done struct {
	q      api.Query
	states []api.State
	mails  []api.Mail
	want   api.Answer
	is     bool
}

func check(t *testing.T, l []api.Posting, all []done) {
	t.Helper()
	for i, x := range all {
		got, is := prog.Done(x.q, l, x.states, x.mails)
		if got.Found != x.want.Found || got.D != x.want.D || !slices.Equal(got.Hits, x.want.Hits) || is != x.is {
			t.Errorf("%d: %v, %v", i, got, is)
		}
	}
}

func TestP18_3DoneFar(t *testing.T) {
	far := api.Query{Kind: 1, From: 0, To: 3}
	both := []api.Mail{sample.Mail(0, 0, 1, 1), sample.Mail(0, 1, 2, 1)}
	found := func(d int) api.Answer { return api.Answer{Found: true, D: d} }
	check(t, nil, []done{
		{far, nil, both, api.Answer{}, false}, {far, nil, both[:1], api.Answer{}, true}, {far, nil, both[1:], api.Answer{}, true}, {far, nil, nil, api.Answer{}, true},
		{far, nil, []api.Mail{sample.Mail(0, 0, 1, 1), sample.Mail(0, 2, 1, 1), sample.Mail(0, -1, 1, 1)}, api.Answer{}, true},
		{far, []api.State{sample.State(0, 0, 1, 2), sample.State(0, 1, 2, 2)}, both, api.Answer{}, false},
		{far, []api.State{sample.State(0, 0, 1, 2), sample.State(0, 1, 1, 3)}, both, found(5), true}, {far, []api.State{sample.State(5, 0, 1, 2), sample.State(7, 1, 1, 3)}, nil, found(5), true},
		{far, []api.State{sample.State(0, 0, 1, 2), sample.State(0, 0, 2, 1), sample.State(0, 1, 1, 3), sample.State(0, 1, 2, 3)}, both, found(4), true},
		{far, []api.State{sample.State(0, 1, 1, 9), sample.State(0, 0, 1, 7), sample.State(0, 1, 1, 4), sample.State(0, 0, 1, 8)}, both, found(11), true},
		{far, []api.State{sample.State(0, 0, 1, 0), sample.State(0, 0, 1, 5), sample.State(0, 1, 1, 0), sample.State(0, 1, 1, 5)}, both, found(0), true},
		{far, []api.State{sample.State(0, 0, 1, 2), sample.State(0, 2, 1, 3), sample.State(0, -1, 1, 3)}, both, api.Answer{}, false},
		{far, []api.State{sample.State(0, 0, -9, 2), sample.State(0, 1, -9, -7)}, both, found(-5), true},
		{far, []api.State{sample.State(0, 0, 1, greatest), sample.State(0, 1, 1, greatest), sample.State(0, 0, 2, 4), sample.State(0, 1, 2, 4)}, both, found(8), true},
		{far, []api.State{sample.State(0, 0, 1, greatest), sample.State(0, 1, 1, least), sample.State(0, 0, 2, 0), sample.State(0, 1, 2, -1)}, both, found(-1), true},
		{far, []api.State{sample.State(0, 0, 1, 3), sample.State(0, 1, 1, 3), sample.State(0, 0, 2, 3), sample.State(0, 1, 2, 2), sample.State(0, 0, 0, 4), sample.State(0, 1, 0, 2)}, both, found(5), true},
	})
}

func TestP18_3DoneReached(t *testing.T) {
	q := api.Query{Kind: 2, From: 0, To: 3}
	one := []api.Mail{sample.Mail(0, 7, 1, 1)}
	check(t, nil, []done{
		{q, nil, one, api.Answer{}, false}, {q, nil, nil, api.Answer{}, true}, {q, []api.State{sample.State(0, 0, 3, 9)}, one, api.Answer{Found: true}, true},
		{q, []api.State{sample.State(0, 0, 2, 9), sample.State(4, 0, 3, -9)}, nil, api.Answer{Found: true}, true}, {q, []api.State{sample.State(0, 1, 3, 9)}, one, api.Answer{}, false},
		{q, []api.State{sample.State(0, 1, 3, 9), sample.State(0, 0, 0, 0)}, nil, api.Answer{}, true},
	})
}

func TestP18_3DoneNear(t *testing.T) {
	_, l := example()
	states := []api.State{sample.State(0, 0, 0, 0), sample.State(0, 0, 1, 1), sample.State(0, 0, 3, 2), sample.State(0, 1, 2, 0), sample.State(0, 0, 9, 0)}
	most := func(q api.Query, most int) api.Query { q.Most = most; return q }
	hits := func(l ...api.Hit) api.Answer { return api.Answer{Found: len(l) > 0, Hits: l} }
	all := []done{
		{near("a"), states, []api.Mail{sample.Mail(5, 5, 5, 5)}, api.Answer{}, false}, {near("a"), nil, nil, api.Answer{}, true},
		{near("a"), states, nil, hits(api.Hit{}, api.Hit{V: 1, D: 1}, api.Hit{V: 3, D: 2}), true}, {near("a", "b"), states, nil, hits(api.Hit{V: 1, D: 1}, api.Hit{V: 3, D: 2}), true},
		{most(near("a"), 2), states, nil, hits(api.Hit{}, api.Hit{V: 1, D: 1}), true}, {most(near("a"), 0), states, nil, hits(), true}, {most(near("a"), least), states, nil, hits(), true},
		{near("c"), states, nil, hits(), true}, {near(), states, nil, hits(), true}, {most(near("a"), greatest), states[1:2], nil, hits(api.Hit{V: 1, D: 1}), true},
		{near("a"), []api.State{sample.State(0, 0, 3, 5), sample.State(1, 0, 0, 5), sample.State(0, 0, 3, -1), sample.State(0, 0, 3, 5)}, nil, hits(api.Hit{V: 3, D: -1}, api.Hit{V: 0, D: 5}, api.Hit{V: 3, D: 5}, api.Hit{V: 3, D: 5}), true},
		{api.Query{}, states, nil, api.Answer{}, true}, {api.Query{Kind: 4}, states, []api.Mail{sample.Mail(0, 0, 0, 0)}, api.Answer{}, true},
	}
	check(t, l, all)
	check(t, nil, []done{{near("a"), states, nil, hits(), true}})
}

func TestP18_4WhatFollows(t *testing.T) {
	r := sample.New(7)
	for range 300 {
		q := api.Query{Kind: 1 + r.Below(3), From: r.Below(9), To: r.Below(9), Words: []string{"a"}, Radius: r.Below(5), Most: 1}
		n := r.Below(12)
		if prog.Check(q, n) == api.OK && prog.Check(q, n+1+r.Below(9)) != api.OK {
			t.Errorf("%v may be of %d places, not of more", q, n)
		}
		var states []api.State
		last, found := api.Answer{}, false
		for range 30 {
			states = append(states, sample.State(0, r.Below(2), r.Below(6), r.Below(9)))
			got, _ := prog.Done(q, nil, states, nil)
			if q.Kind < 3 && found && (!got.Found || got.D > last.D) {
				t.Errorf("%v, then %v with more states", last, got)
			}
			last, found = got, got.Found
		}
	}
	of, _ := example()
	for v := range 4 {
		for dir := range 2 {
			l, _ := prog.Next(api.Query{Kind: 1}, of, sample.State(2, dir, v, 6))
			for i, m := range l {
				if m.D != 7 || m.Key.Slot != 2 || m.Key.Dir != dir || i > 0 && l[i-1].Key.V == m.Key.V {
					t.Errorf("%v", l)
				}
			}
		}
	}
}

func TestR2NothingIsChanged(t *testing.T) {
	r, l := example()
	states := []api.State{sample.State(0, 0, 3, 1), sample.State(0, 0, 1, 0)}
	prog.Next(near("a"), r, states[0])
	got, _ := prog.Done(near("a"), l, states, nil)
	got.Hits[0].V = 9
	r2, l2 := example()
	if !reflect.DeepEqual(r, r2) || !reflect.DeepEqual(l, l2) || states[0] != sample.State(0, 0, 3, 1) {
		t.Errorf("%v, %v, %v", r, l, states)
	}
}
