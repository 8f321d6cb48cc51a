package posting_test

import (
	"reflect"
	"slices"
	"testing"

	"wayside/api"
	"wayside/graph"
	"wayside/posting"
	"wayside/sample"
)

func example(t *testing.T) []api.Posting {
	t.Helper()
	g := api.Graph{N: 2, Words: [][]string{{"a", "b"}, {"b"}}}
	l, e := posting.Make(g)
	if e != api.OK {
		t.Fatal(e)
	}
	return l
}

func TestP5_1Make(t *testing.T) {
	want := []api.Posting{{Word: "a", Places: []int{0}}, {Word: "b", Places: []int{0, 1}}}
	if l := example(t); !reflect.DeepEqual(l, want) {
		t.Errorf("%v", l)
	}
	if l, e := posting.Make(sample.Plain(3, 0, 1)); len(l) != 0 || e != api.OK {
		t.Errorf("without words: %v, %d", l, e)
	}
	words := api.Graph{N: 1, Words: [][]string{{"a", "aa", "ab", "b"}}}
	if l, _ := posting.Make(words); len(l) != 4 || l[0].Word != "a" || l[1].Word != "aa" || l[2].Word != "ab" || l[3].Word != "b" {
		t.Errorf("%v", l)
	}
	for i, g := range []api.Graph{{}, {N: 1}, {N: 1, Words: [][]string{{"b", "a"}}}, {N: 1, Words: [][]string{{"a", "a"}}}, sample.Plain(2, 0, 2)} {
		if l, e := posting.Make(g); len(l) != 0 || e != api.ErrGraph {
			t.Errorf("%d: %v, %d", i, l, e)
		}
	}
}

func TestP5_1Check(t *testing.T) {
	one := func(word string, places ...int) []api.Posting { return []api.Posting{{Word: word, Places: places}} }
	for i, x := range []struct {
		l  []api.Posting
		n  int
		is bool
	}{
		{nil, 1, true}, {nil, 200, true}, {nil, 0, false}, {nil, 201, false}, {nil, -1, false},
		{one("a", 0), 1, true}, {one("a", 199), 200, true}, {one("abcdefghijkl", 0, 2), 3, true},
		{one("a", 1), 1, false}, {one("a", -1), 1, false}, {one("a"), 1, false}, {one("a", 0, 0), 1, false}, {one("a", 1, 0), 2, false},
		{one("", 0), 1, false}, {one("A", 0), 1, false}, {one("abcdefghijklm", 0), 1, false},
		{append(one("a", 0), one("b", 0)...), 1, true}, {append(one("a", 0), one("aa", 0)...), 1, true},
		{append(one("b", 0), one("a", 0)...), 1, false}, {append(one("a", 0), one("a", 0)...), 1, false}, {append(one("a", 0), one("b", 1)...), 1, false},
	} {
		if posting.Check(x.l, x.n) != x.is {
			t.Errorf("%d: %v", i, !x.is)
		}
	}
}

func TestP5_2Find(t *testing.T) {
	l := []api.Posting{{Word: "b", Places: []int{3, -1, 3}}, {Word: "a"}, {Word: "b", Places: []int{9}}, {Word: "a", Places: []int{7}}, {Word: "", Places: []int{1}}}
	if got := posting.Find(l, "b"); !slices.Equal(got, []int{3, -1, 3}) {
		t.Errorf("%v", got)
	}
	if got := posting.Find(l, "a"); len(got) != 0 {
		t.Errorf("the first one of a has none: %v", got)
	}
	if got := posting.Find(l, ""); !slices.Equal(got, []int{1}) {
		t.Errorf("%v", got)
	}
	if got := posting.Find(l, "bb"); len(got) != 0 {
		t.Errorf("%v", got)
	}
}

func TestP5_2Both(t *testing.T) {
	for _, x := range [][3][]int{
		{nil, nil, nil}, {{1}, nil, nil}, {nil, {1}, nil}, {{1}, {2}, nil}, {{3, 1, 2}, {2, 3, 5}, {2, 3}},
		{{1, 1, 1}, {1, 1}, {1}}, {{-1 << 63, 1<<63 - 1, 0}, {1<<63 - 1, 7, -1 << 63}, {-1 << 63, 1<<63 - 1}},
	} {
		if got := posting.Both(x[0], x[1]); !slices.Equal(got, x[2]) {
			t.Errorf("%v and %v: %v", x[0], x[1], got)
		}
	}
}

func TestP5_3AllAny(t *testing.T) {
	l := example(t)
	odd := append(l, api.Posting{Word: "x", Places: []int{5, 1, 5, -2}}, api.Posting{Word: "y", Places: []int{-2, 5, 0}}, api.Posting{Word: "x", Places: []int{0}})
	for i, x := range []struct {
		l        []api.Posting
		words    []string
		all, any []int
	}{
		{l, []string{"a", "b"}, []int{0}, []int{0, 1}}, {l, []string{"b"}, []int{0, 1}, []int{0, 1}}, {l, []string{"c"}, nil, nil},
		{l, []string{"a", "c"}, nil, []int{0}}, {l, []string{"a", "a"}, []int{0}, []int{0}}, {nil, []string{"a"}, nil, nil},
		{odd, []string{"x"}, []int{-2, 1, 5}, []int{-2, 1, 5}}, {odd, []string{"x", "y"}, []int{-2, 5}, []int{-2, 0, 1, 5}},
	} {
		if got, e := posting.All(x.l, x.words); !slices.Equal(got, x.all) || e != api.OK {
			t.Errorf("%d: All: %v, %d", i, got, e)
		}
		if got, e := posting.Any(x.l, x.words); !slices.Equal(got, x.any) || e != api.OK {
			t.Errorf("%d: Any: %v, %d", i, got, e)
		}
	}
	for _, none := range [][]string{nil, {}} {
		all, e := posting.All(l, none)
		some, f := posting.Any(l, none)
		if len(all) != 0 || e != api.ErrArg || len(some) != 0 || f != api.ErrArg {
			t.Errorf("no words: %v, %d, %v, %d", all, e, some, f)
		}
	}
}

func TestP5_4WhatFollows(t *testing.T) {
	for seed := range 20 {
		g, _ := graph.Normal(sample.Graph(seed, 1+2*seed, 0))
		l, _ := posting.Make(g)
		if !posting.Check(l, g.N) {
			t.Errorf("%d: not right", seed)
		}
		for _, words := range [][]string{{"a"}, {"b", "a"}, {"c", "d"}, {"a", "b", "c"}, {"e"}, {"d", "e"}} {
			all, _ := posting.All(l, words)
			some, _ := posting.Any(l, words)
			for v := range g.N {
				if slices.Contains(all, v) != sample.Has(g, v, words) {
					t.Errorf("%d: %v at %d", seed, words, v)
				}
				one := slices.ContainsFunc(words, func(w string) bool { return sample.Has(g, v, []string{w}) })
				if slices.Contains(some, v) != one {
					t.Errorf("%d: any of %v at %d", seed, words, v)
				}
			}
			turned := slices.Clone(words)
			slices.Reverse(turned)
			all2, _ := posting.All(l, turned)
			some2, _ := posting.Any(l, turned)
			more, _ := posting.All(l, append(turned, "a"))
			more2, _ := posting.Any(l, append(turned, "a"))
			if !slices.Equal(all, all2) || !slices.Equal(some, some2) || len(more) > len(all) || len(more2) < len(some) {
				t.Errorf("%d: %v", seed, words)
			}
		}
	}
}

func TestR2NothingShared(t *testing.T) {
	l := example(t)
	for _, words := range [][]string{{"a"}, {"b"}, {"b", "b"}} {
		all, _ := posting.All(l, words)
		some, _ := posting.Any(l, words)
		found := posting.Find(l, words[0])
		all[0], some[0], found[0] = 99, 99, 99
	}
	a, b := []int{2, 1}, []int{1, 2}
	posting.Both(a, b)[0] = 7
	if !reflect.DeepEqual(l, example(t)) || !slices.Equal(a, []int{2, 1}) || !slices.Equal(b, []int{1, 2}) {
		t.Errorf("%v, %v, %v", l, a, b)
	}
}
