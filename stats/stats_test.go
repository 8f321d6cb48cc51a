package stats_test

import (
	"slices"
	"testing"

	"wayside/api"
	"wayside/frame"
	"wayside/sample"
	"wayside/stats"
)

const least, greatest = -1 << 63, 1<<63 - 1

func reply(id int, code api.Errno) string {
	s, _ := frame.PutReply(api.Reply{Id: id, Code: code})
	return s
}

// odd are no replies: of the second one the Id could be read, the third one has a byte more.
func odd() []string { return []string{"x", "\x01", reply(1, 251) + "\x00", ""} }

func TestP26_1Codes(t *testing.T) {
	c, n := stats.Codes([]string{reply(1, 0), reply(2, 251), reply(3, 0), "x"})
	if !slices.Equal(c, []api.Count{{Code: 0, N: 2}, {Code: 251, N: 1}}) || n != 1 {
		t.Errorf("%v, %d", c, n)
	}
	if c, n := stats.Codes(nil); len(c) != 0 || n != 0 {
		t.Errorf("%v, %d", c, n)
	}
	if c, n := stats.Codes(odd()); len(c) != 0 || n != 4 {
		t.Errorf("%v, %d", c, n)
	}
	c, n = stats.Codes(append(odd(), reply(9, 1000), reply(9, 1), reply(9, 20), reply(8, 1000), reply(9, 1000)))
	if !slices.Equal(c, []api.Count{{Code: 1, N: 1}, {Code: 20, N: 1}, {Code: 1000, N: 3}}) || n != 4 {
		t.Errorf("%v, %d", c, n)
	}
}

func TestP26_2Of(t *testing.T) {
	hit, _ := frame.PutReply(api.Reply{Id: 7, Answer: api.Answer{Found: true, Hits: []api.Hit{{V: 3, D: 2}}}})
	l := append(odd(), reply(7, 251), reply(1, 0), hit, reply(7, 150), reply(7, 251))
	got, ok := stats.Of(l, 7)
	if len(got) != 4 || !ok || got[0].Code != 251 || !slices.Equal(got[1].Answer.Hits, []api.Hit{{V: 3, D: 2}}) || got[2].Code != 150 || got[3].Code != 251 {
		t.Errorf("%v, %v", got, ok)
	}
	got[1].Answer.Hits[0].V = 9
	if again, _ := stats.Of(l, 7); again[1].Answer.Hits[0].V != 3 {
		t.Errorf("%v", again)
	}
	if got, ok := stats.Of(l, 1); len(got) != 1 || !ok {
		t.Errorf("%v, %v", got, ok)
	}
	for _, id := range []int{0, 2, 'x', -1, least, greatest} {
		if got, ok := stats.Of(l, id); len(got) != 0 || ok {
			t.Errorf("%d: %v, %v", id, got, ok)
		}
	}
}

func TestP26_2IdsAndOnce(t *testing.T) {
	for i, x := range []struct {
		l    []string
		ids  []int
		once bool
	}{
		{nil, nil, true}, {odd(), nil, true}, {[]string{"x", "x"}, nil, true}, {[]string{reply(5, 0), reply(300, 1), reply(2, 0)}, []int{2, 5, 300}, true},
		{[]string{reply(5, 0), reply(2, 0), reply(5, 251)}, []int{2, 5}, false}, {append(odd(), reply(1, 0)), []int{1}, true}, {append(odd(), reply(0, 0), reply(0, 0)), []int{0}, false},
		{[]string{reply(api.MaxNumber, 0), reply(0, 0)}, []int{0, api.MaxNumber}, true},
	} {
		if ids := stats.Ids(x.l); !slices.Equal(ids, x.ids) || stats.Once(x.l) != x.once {
			t.Errorf("%d: %v, %v", i, ids, stats.Once(x.l))
		}
	}
}

func TestP26_3WhatFollows(t *testing.T) {
	some := func(r *sample.Row) []string {
		var l []string
		for range r.Below(12) {
			if r.Below(5) == 0 {
				l = append(l, odd()[r.Below(4)])
			} else {
				l = append(l, reply(r.Below(40), api.Errno(r.Below(4))))
			}
		}
		return l
	}
	for seed := range 200 {
		r := sample.New(seed)
		a, b := some(r), some(r)
		sum := func(l []string) (map[api.Errno]int, int, int) {
			counts, odd := stats.Codes(l)
			each, all := map[api.Errno]int{}, 0
			for _, c := range counts {
				each[c.Code] += c.N
				all += c.N
			}
			if all+odd != len(l) || stats.Once(l) != (len(stats.Ids(l)) == all) {
				t.Errorf("%q: %v, %d", l, counts, odd)
			}
			return each, odd, all
		}
		x, odda, _ := sum(a)
		y, oddb, _ := sum(b)
		both, odd, _ := sum(append(slices.Clone(a), b...))
		for code := range api.Errno(4) {
			if both[code] != x[code]+y[code] || odd != odda+oddb {
				t.Errorf("%d: %v and %v are %v", seed, x, y, both)
			}
		}
	}
}
