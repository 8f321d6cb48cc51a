// Package sample makes things for tests, each from numbers alone, and works out by the plainest way what others have to tell of them.
package sample

import (
	"slices"

	"wayside/api"
	"wayside/graph"
	"wayside/posting"
	"wayside/rows"
)

// Row is numbers that follow one another as a short rule says, from a seed on.
type Row struct{ last uint64 }

// New is a row of that seed.
func New(seed int) *Row { return &Row{uint64(seed)*2654435761 + 12345} }

// Below is the row's next number, from 0 to one less than n.
func (r *Row) Below(n int) int {
	r.last = r.last*6364136223846793005 + 1442695040888963407
	return int(r.last >> 33 % uint64(n))
}

// Picks are many numbers, some of them below 0.
func (r *Row) Picks(many int) []int {
	l := make([]int, many)
	for i := range l {
		l[i] = r.Below(2000) - 1000
	}
	return l
}

// Graph has n places, some ways, and words of `a` to `d`; what it has may be there twice, in any order.
func Graph(seed, n, ways int) api.Graph {
	r := New(seed)
	g := api.Graph{N: n, Words: make([][]string, n)}
	for range ways {
		g.Edges = append(g.Edges, api.Edge{From: r.Below(n), To: r.Below(n)})
	}
	for v := range n {
		for range r.Below(4) {
			at := r.Below(4)
			g.Words[v] = append(g.Words[v], "abcd"[at:at+1])
		}
	}
	return g
}

// Line has n places in a row, and ways from each to the next one.
func Line(n int) api.Graph {
	g := api.Graph{N: n, Words: make([][]string, n)}
	for v := 1; v < n; v++ {
		g.Edges = append(g.Edges, api.Edge{From: v - 1, To: v})
	}
	return g
}

// Levels tells, for each two places, how many steps lead from the one to the other one; -1, if none do.
func Levels(g api.Graph) [][]int {
	far := make([][]int, g.N)
	for v := range far {
		far[v] = make([]int, g.N)
		for w := range far[v] {
			if v != w {
				far[v][w] = -1
			}
		}
	}
	for _, e := range g.Edges {
		if e.From != e.To {
			far[e.From][e.To] = 1
		}
	}
	for u := range g.N {
		for v := range g.N {
			for w := range g.N {
				if far[v][u] < 0 || far[u][w] < 0 {
					continue
				}
				if by := far[v][u] + far[u][w]; far[v][w] < 0 || by < far[v][w] {
					far[v][w] = by
				}
			}
		}
	}
	return far
}

// Has says whether place v of g has all words.
func Has(g api.Graph, v int, words []string) bool {
	for _, word := range words {
		there := false
		for _, s := range g.Words[v] {
			there = there || s == word
		}
		if !there {
			return false
		}
	}
	return true
}

// Ways are the ways from ends[0] to ends[1], from ends[2] to ends[3], and so on.
func Ways(ends ...int) []api.Edge {
	var l []api.Edge
	for i := 1; i < len(ends); i += 2 {
		l = append(l, api.Edge{From: ends[i-1], To: ends[i]})
	}
	return l
}

// Plain has n places, those Ways, and no words.
func Plain(n int, ends ...int) api.Graph {
	return api.Graph{N: n, Edges: Ways(ends...), Words: make([][]string, n)}
}

// Rows is g's Normal, and its rows.
func Rows(g api.Graph) (api.Graph, api.Rows) {
	n, _ := graph.Normal(g)
	r, _ := rows.Make(n)
	return n, r
}

// Whole is g's Normal, its rows, and its postings.
func Whole(g api.Graph) (api.Graph, api.Rows, []api.Posting) {
	n, r := Rows(g)
	l, _ := posting.Make(n)
	return n, r, l
}

// Same says whether two graphs are alike; a list of none may be nil.
func Same(a, b api.Graph) bool {
	if a.N != b.N || !slices.Equal(a.Edges, b.Edges) || len(a.Words) != len(b.Words) {
		return false
	}
	for v := range a.Words {
		if !slices.Equal(a.Words[v], b.Words[v]) {
			return false
		}
	}
	return true
}

// State is a state of that key and D.
func State(slot, dir, v, d int) api.State {
	return api.State{Key: api.Key{Slot: slot, Dir: dir, V: v}, D: d}
}

// Mail is a message of that key and D.
func Mail(slot, dir, v, d int) api.Mail { return api.Mail(State(slot, dir, v, d)) }
