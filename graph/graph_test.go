package graph_test

import (
	"reflect"
	"slices"
	"strings"
	"testing"

	"wayside/api"
	"wayside/graph"
	"wayside/sample"
)

func copied(g api.Graph) api.Graph {
	words := make([][]string, len(g.Words))
	for v, row := range g.Words {
		words[v] = slices.Clone(row)
	}
	return api.Graph{N: g.N, Edges: slices.Clone(g.Edges), Words: words}
}

// wrong are graphs that may not be.
func wrong() map[string]api.Graph {
	one := [][]string{nil}
	many := make([]string, 9)
	for i := range many {
		many[i] = "a"
	}
	return map[string]api.Graph{
		"zero":           {},
		"places below 0": {N: -1},
		"201 places":     {N: 201, Words: make([][]string, 201)},
		"too few rows":   {N: 2, Words: one},
		"too many rows":  {N: 1, Words: make([][]string, 2)},
		"no rows":        {N: 1},
		"a way to 2":     {N: 2, Edges: []api.Edge{{From: 0, To: 2}}, Words: make([][]string, 2)},
		"a way from 1":   {N: 1, Edges: []api.Edge{{From: 1, To: 0}}, Words: one},
		"a way from -1":  {N: 1, Edges: []api.Edge{{From: -1, To: 0}}, Words: one},
		"a way to -1":    {N: 1, Edges: []api.Edge{{From: 0, To: -1}}, Words: one},
		"2001 ways":      {N: 1, Edges: make([]api.Edge, 2001), Words: one},
		"9 words":        {N: 1, Words: [][]string{many}},
		"a wrong word":   {N: 1, Words: [][]string{{"a", "A"}}},
		"an empty word":  {N: 1, Words: [][]string{{""}}},
	}
}

func TestP2_1Word(t *testing.T) {
	for _, s := range []string{"a", "z", "abcdefghijkl", "zzzzzzzzzzzz"} {
		if !graph.Word(s) {
			t.Errorf("%q is a word", s)
		}
	}
	for _, s := range []string{"", "A", "abcdefghijklm", "a b", "a1", "`", "{", "a\x00", "é", "a\xff"} {
		if graph.Word(s) {
			t.Errorf("%q is no word", s)
		}
	}
}

func TestP2_1Check(t *testing.T) {
	full := slices.Repeat([][]string{{"a", "a", "a", "a", "a", "a", "a", "a"}}, 200)
	for name, g := range map[string]api.Graph{
		"one place":   {N: 1, Words: [][]string{nil}},
		"as may be":   {N: 200, Edges: slices.Repeat([]api.Edge{{From: 199, To: 199}}, 2000), Words: full},
		"any order":   {N: 2, Edges: []api.Edge{{From: 1}, {To: 1}, {From: 1}}, Words: [][]string{{"b", "a", "b"}, {}}},
		"of a sample": sample.Graph(1, 20, 50),
	} {
		if !graph.Check(g) {
			t.Errorf("%s may be", name)
		}
	}
	for name, g := range wrong() {
		if graph.Check(g) || graph.Is(g) {
			t.Errorf("%s may not be", name)
		}
	}
}

func TestP2_1Is(t *testing.T) {
	none := make([][]string, 2)
	for name, x := range map[string]struct {
		g  api.Graph
		is bool
	}{
		"empty":             {api.Graph{N: 2, Words: none}, true},
		"rising":            {api.Graph{N: 2, Edges: sample.Ways(0, 0, 0, 1, 1, 0), Words: [][]string{{"a", "aa", "b"}, nil}}, true},
		"a way twice":       {api.Graph{N: 2, Edges: sample.Ways(0, 1, 0, 1), Words: none}, false},
		"From falls":        {api.Graph{N: 2, Edges: sample.Ways(1, 0, 0, 1), Words: none}, false},
		"To falls":          {api.Graph{N: 2, Edges: sample.Ways(0, 1, 0, 0), Words: none}, false},
		"a word twice":      {api.Graph{N: 2, Words: [][]string{nil, {"a", "a"}}}, false},
		"words fall":        {api.Graph{N: 2, Words: [][]string{nil, {"b", "a"}}}, false},
		"beginning is less": {api.Graph{N: 2, Words: [][]string{nil, {"aa", "a"}}}, false},
	} {
		if graph.Is(x.g) != x.is {
			t.Errorf("%s: %v", name, !x.is)
		}
	}
}

func TestP2_2Normal(t *testing.T) {
	g := api.Graph{N: 2, Edges: sample.Ways(1, 0, 0, 1, 1, 0), Words: [][]string{nil, {"b", "a", "b"}}}
	want := api.Graph{N: 2, Edges: sample.Ways(0, 1, 1, 0), Words: [][]string{nil, {"a", "b"}}}
	if n, e := graph.Normal(g); e != api.OK || !sample.Same(n, want) {
		t.Errorf("%v, %d", n, e)
	}
	for name, bad := range wrong() {
		if n, e := graph.Normal(bad); e != api.ErrGraph || !reflect.DeepEqual(n, api.Graph{}) {
			t.Errorf("%s: %v, %d", name, n, e)
		}
	}
	for seed := range 30 {
		g := sample.Graph(seed, 1+seed, 3*seed)
		n, e := graph.Normal(g)
		if e != api.OK || !graph.Is(n) || n.N != g.N {
			t.Fatalf("%d: %d, not normal", seed, e)
		}
		for _, edge := range g.Edges {
			if !slices.Contains(n.Edges, edge) {
				t.Errorf("%d: no edge %v", seed, edge)
			}
		}
		for _, edge := range n.Edges {
			if !slices.Contains(g.Edges, edge) {
				t.Errorf("%d: an edge %v", seed, edge)
			}
		}
		for v := range g.N {
			if a, b := strings.Join(n.Words[v], " "), set(g.Words[v]); a != b {
				t.Errorf("%d: place %d has %q, not %q", seed, v, a, b)
			}
		}
	}
}

func set(l []string) string {
	l = slices.Clone(l)
	slices.Sort(l)
	return strings.Join(slices.Compact(l), " ")
}

func TestP2_3Degrees(t *testing.T) {
	g := api.Graph{N: 3, Edges: sample.Ways(1, 0, 0, 1, 1, 0, 1, 1), Words: make([][]string, 3)}
	for v, want := range [][2]int{{1, 1}, {2, 2}, {0, 0}} {
		if from, to, ok := graph.Degrees(g, v); !ok || from != want[0] || to != want[1] {
			t.Errorf("%d: %d, %d, %v", v, from, to, ok)
		}
	}
	for _, v := range []int{-1, 3, 1<<63 - 1, -1 << 63} {
		if from, to, ok := graph.Degrees(g, v); ok || from != 0 || to != 0 {
			t.Errorf("%d: %d, %d, %v", v, from, to, ok)
		}
	}
	for name, bad := range wrong() {
		if from, to, ok := graph.Degrees(bad, 0); ok || from != 0 || to != 0 {
			t.Errorf("%s: %d, %d, %v", name, from, to, ok)
		}
	}
}

func TestP2_3Turned(t *testing.T) {
	g := api.Graph{N: 3, Edges: sample.Ways(0, 2, 0, 1, 1, 0, 0, 2), Words: [][]string{{"b", "a"}, nil, nil}}
	want := api.Graph{N: 3, Edges: sample.Ways(0, 1, 1, 0, 2, 0), Words: [][]string{{"a", "b"}, nil, nil}}
	if n, e := graph.Turned(g); e != api.OK || !sample.Same(n, want) {
		t.Errorf("%v, %d", n, e)
	}
	for name, bad := range wrong() {
		if n, e := graph.Turned(bad); e != api.ErrGraph || !reflect.DeepEqual(n, api.Graph{}) {
			t.Errorf("%s: %v, %d", name, n, e)
		}
	}
}

func TestP2_4WhatFollows(t *testing.T) {
	for seed := range 20 {
		g := sample.Graph(seed, 5+seed, 40)
		n, _ := graph.Normal(g)
		if twice, _ := graph.Normal(n); !sample.Same(twice, n) {
			t.Errorf("%d: Normal twice", seed)
		}
		mixed := copied(g)
		slices.Reverse(mixed.Edges)
		mixed.Edges = append(mixed.Edges, g.Edges[:7]...)
		for v := range mixed.Words {
			slices.Reverse(mixed.Words[v])
			mixed.Words[v] = append(mixed.Words[v], mixed.Words[v]...)
		}
		if other, _ := graph.Normal(mixed); !sample.Same(other, n) {
			t.Errorf("%d: order plays a part", seed)
		}
		turned, _ := graph.Turned(g)
		if back, _ := graph.Turned(turned); !sample.Same(back, n) {
			t.Errorf("%d: Turned twice", seed)
		}
		from, to := 0, 0
		for v := range g.N {
			a, b, _ := graph.Degrees(g, v)
			from, to = from+a, to+b
		}
		if from != len(n.Edges) || to != len(n.Edges) {
			t.Errorf("%d: degrees %d, %d of %d edges", seed, from, to, len(n.Edges))
		}
	}
}

func TestR2NothingShared(t *testing.T) {
	g := api.Graph{N: 2, Edges: sample.Ways(1, 0, 0, 1), Words: [][]string{{"b", "a"}, {"c"}}}
	before := copied(g)
	for _, call := range []func(api.Graph) (api.Graph, api.Errno){graph.Normal, graph.Turned} {
		n, _ := call(g)
		n.Edges[0] = api.Edge{From: 1, To: 1}
		n.Words[0][0], n.Words[1][0] = "x", "x"
		n.Words[1] = nil
		if !sample.Same(g, before) {
			t.Errorf("%v", g)
		}
	}
}
