package audit_test

import (
	"slices"
	"testing"

	"wayside/api"
	"wayside/audit"
	"wayside/frame"
	"wayside/graph"
	"wayside/image"
	"wayside/sample"
	"wayside/server"
	"wayside/stats"
)

func picture(g api.Graph) string {
	n, _ := graph.Normal(g)
	s, _ := image.Print(n)
	return s
}

func asks(x api.Request) api.Event {
	s, _ := frame.PutRequest(x)
	return api.Event{Frame: s}
}

func dist(id, from, to int) api.Event {
	return asks(api.Request{Id: id, Kind: 1, Query: api.Query{Kind: 1, From: from, To: to}})
}

func cancel(id int) api.Event { return asks(api.Request{Id: id, Kind: 4}) }

func tick(picks ...int) api.Event { return api.Event{Tick: true, Picks: picks} }

func code(id int, code api.Errno) string {
	s, _ := frame.PutReply(api.Reply{Id: id, Code: code})
	return s
}

func found(id, d int) string {
	s, _ := frame.PutReply(api.Reply{Id: id, Answer: api.Answer{Found: true, D: d}})
	return s
}

func small() api.Config {
	return api.Config{Workers: 1, Slots: 1, Queue: 1, Pool: 9, Budget: 9}
}

// script is some events, by numbers: Ids come again and again, and some frames are none.
func script(r *sample.Row, n, many int) []api.Event {
	var l []api.Event
	for range many {
		id := r.Below(8)
		switch r.Below(8) {
		case 0, 1, 2:
			l = append(l, tick(r.Picks(r.Below(9))...))
		case 3:
			l = append(l, cancel(id))
		case 4:
			l = append(l, api.Event{Frame: []string{"", "\x80", "\x05\x09", "\x03\x01\x00"}[r.Below(4)], Picks: r.Picks(2)})
		case 5:
			l = append(l, asks(api.Request{Id: id, Kind: 3, Query: api.Query{Kind: 3, From: r.Below(n), Words: []string{"a"}, Radius: r.Below(4), Most: 3}}))
		default:
			l = append(l, dist(id, r.Below(n), r.Below(n+1)))
		}
	}
	return l
}

func TestP27_1Run(t *testing.T) {
	l := []api.Event{dist(7, 0, 1), dist(8, 0, 1), tick(), tick(), tick()}
	told, live, e := audit.Run(small(), picture(sample.Line(2)), l)
	if !slices.Equal(told, []string{code(8, api.ErrQueue), found(7, 1)}) || !slices.Equal(live, []int{0}) || e != api.OK {
		t.Errorf("%q, %v, %d", told, live, e)
	}
	told, live, e = audit.Run(small(), picture(sample.Line(2)), l[:3])
	if !slices.Equal(told, []string{code(8, api.ErrQueue)}) || !slices.Equal(live, []int{2}) || e != api.OK {
		t.Errorf("%q, %v, %d", told, live, e)
	}
	told, live, e = audit.Run(api.Config{Workers: 3, Slots: 1, Queue: 1, Pool: 9, Budget: 9}, picture(sample.Line(2)), nil)
	if len(told) != 0 || !slices.Equal(live, []int{0, 0, 0}) || e != api.OK {
		t.Errorf("%q, %v, %d", told, live, e)
	}
}

func TestP27_1RunIsWhatAServerDoes(t *testing.T) {
	for seed := range 30 {
		r := sample.New(seed)
		g := sample.Graph(seed, 2+r.Below(15), 40)
		c := api.Config{Workers: 1 + r.Below(16), Slots: 1 + r.Below(3), Queue: 1 + r.Below(4), Pool: 3 + r.Below(20), Budget: 1 + r.Below(9)}
		l := script(r, g.N, 120)
		s, _ := server.New(c, picture(g))
		var want []string
		var taken []int
		for _, x := range l {
			if x.Tick {
				want = append(want, s.Tick(x.Picks)...)
				continue
			}
			f, ok := s.Come(x.Frame)
			if ok {
				want = append(want, f)
			} else if request, e := frame.GetRequest(x.Frame); e == api.OK {
				taken = append(taken, request.Id)
			}
		}
		told, live, e := audit.Run(c, picture(g), l)
		if !slices.Equal(told, want) || !slices.Equal(live, s.Live()) || e != api.OK {
			t.Errorf("%d: %q, %v, %d, not %q", seed, told, live, e, want)
		}
		if ids, e := audit.Takes(c, picture(g), l); !slices.Equal(ids, taken) || e != api.OK {
			t.Errorf("%d: %v, %d, not %v", seed, ids, e, taken)
		}
	}
}

func TestP27_1And2Wrong(t *testing.T) {
	p := picture(sample.Line(2))
	for i, x := range []struct {
		c    api.Config
		s    string
		many int
		want api.Errno
	}{
		{small(), p, 1000, api.OK}, {small(), p, 1001, api.ErrLimit}, {api.Config{}, "", 1001, api.ErrLimit}, {api.Config{}, "", 0, api.ErrArg}, {api.Config{}, p, 3, api.ErrArg}, {small(), "wg", 3, api.ErrImage},
	} {
		told, live, e := audit.Run(x.c, x.s, make([]api.Event, x.many))
		ids, f := audit.Takes(x.c, x.s, make([]api.Event, x.many))
		if e != x.want || f != x.want || len(told)+len(ids) != 0 || e != api.OK && len(live) != 0 {
			t.Errorf("%d: %q, %v, %d, %v, %d", i, told, live, e, ids, f)
		}
	}
}

func TestP27_2Takes(t *testing.T) {
	p := picture(sample.Line(2))
	l := []api.Event{{Frame: ""}, {Frame: "\x80"}, dist(7, 0, 1), dist(8, 0, 1), tick(), dist(8, 0, 1), dist(7, 0, 1), cancel(9), tick(), dist(7, 0, 9), dist(7, 1, 1), {Frame: "\x07"}}
	// Come tells nothing of the first two, which are no requests; 7 may wait once more when it was replied to, but 8 is in the queue.
	if ids, e := audit.Takes(small(), p, l); !slices.Equal(ids, []int{7, 8}) || e != api.OK {
		t.Errorf("%v, %d", ids, e)
	}
	l = append(l, tick(), dist(7, 1, 1))
	if ids, e := audit.Takes(small(), p, l); !slices.Equal(ids, []int{7, 8, 7}) || e != api.OK {
		t.Errorf("%v, %d", ids, e)
	}
}

func TestP27_2Calm(t *testing.T) {
	l := []api.Event{{Tick: true, Frame: "a", Picks: []int{1, 2}}, {Frame: "b", Picks: []int{3}}, {Tick: true}}
	calm := audit.Calm(l)
	if len(calm) != 3 || !slices.Equal(l[0].Picks, []int{1, 2}) {
		t.Fatalf("%v, %v", calm, l)
	}
	for i, x := range calm {
		if x.Tick != l[i].Tick || x.Frame != l[i].Frame || len(x.Picks) != 0 {
			t.Errorf("%d: %v", i, x)
		}
	}
	if len(audit.Calm(nil)) != 0 {
		t.Errorf("of none")
	}
	calm[2].Frame = "z"
	if l[2].Frame != "" {
		t.Errorf("%v", l)
	}
}

func TestP27_3WhatFollows(t *testing.T) {
	for seed := range 40 {
		r := sample.New(seed)
		g := sample.Graph(seed, 2+r.Below(15), 40)
		p := picture(g)
		c := api.Config{Workers: 1 + r.Below(16), Slots: 1 + r.Below(3), Queue: 1 + r.Below(4), Pool: 3 + r.Below(20), Budget: 1 + r.Below(9)}
		l := script(r, g.N, 100)
		told, live, _ := audit.Run(c, p, l)
		calm, still, _ := audit.Run(c, p, audit.Calm(l))
		if !slices.Equal(told, calm) || !slices.Equal(live, still) {
			t.Errorf("%d: %q, calm %q", seed, told, calm)
		}
		for n := range len(l) {
			part, _, _ := audit.Run(c, p, l[:n])
			if len(part) > len(told) || !slices.Equal(part, told[:len(part)]) {
				t.Fatalf("%d: the first %d tell %q", seed, n, part)
			}
		}
		// Of requests with Ids that come once alone, and ticks enough behind them: each that was let wait has one reply of a tick, or of ErrGone.
		var once []api.Event
		for i := range 30 {
			once = append(once, dist(i, r.Below(g.N), r.Below(g.N)))
			if r.Below(2) == 0 {
				once = append(once, tick(r.Below(9)))
			}
			if r.Below(3) == 0 {
				once = append(once, cancel(r.Below(i+1)))
			}
		}
		for range 31 * (c.Budget + 2) {
			once = append(once, tick(1))
		}
		all, _, _ := audit.Run(c, p, once)
		taken, _ := audit.Takes(c, p, once)
		all = slices.DeleteFunc(all, func(f string) bool {
			x, _ := frame.GetReply(f)
			return x.Code == api.ErrNone || x.Code == api.ErrQueue
		})
		slices.Sort(taken)
		if !stats.Once(all) || !slices.Equal(stats.Ids(all), taken) {
			t.Errorf("%d: %v were taken, replied is to %v", seed, taken, stats.Ids(all))
		}
	}
}
