package server_test

import (
	"slices"
	"testing"

	"wayside/api"
	"wayside/frame"
	"wayside/graph"
	"wayside/image"
	"wayside/job"
	"wayside/part"
	"wayside/posting"
	"wayside/prog"
	"wayside/round"
	"wayside/rows"
	"wayside/sample"
	"wayside/server"
)

const least, greatest = -1 << 63, 1<<63 - 1

// roomy is a config in which nothing is ever refused, of a graph of at most 200 places.
func roomy(workers, slots, n int) api.Config {
	return api.Config{Workers: workers, Slots: slots, Queue: 1000, Pool: min(400, 2*slots*n), Budget: n + 2}
}

type world struct {
	g    api.Graph
	rows api.Rows
	l    []api.Posting
	s    string
}

func of(t *testing.T, g api.Graph) world {
	t.Helper()
	n, _ := graph.Normal(g)
	s, e := image.Print(n)
	if e != api.OK {
		t.Fatal(e)
	}
	r, _ := rows.Make(n)
	l, _ := posting.Make(n)
	return world{n, r, l, s}
}

func (w world) server(t *testing.T, c api.Config) *server.Server {
	t.Helper()
	s, e := server.New(c, w.s)
	if s == nil || e != api.OK {
		t.Fatalf("New: %d", e)
	}
	return s
}

func put(t *testing.T, x api.Request) string {
	t.Helper()
	s, e := frame.PutRequest(x)
	if e != api.OK {
		t.Fatalf("%v: %d", x, e)
	}
	return s
}

func dist(t *testing.T, id, from, to int) string {
	t.Helper()
	return put(t, api.Request{Id: id, Kind: 1, Query: api.Query{Kind: 1, From: from, To: to}})
}

func reach(t *testing.T, id, from, to int) string {
	t.Helper()
	return put(t, api.Request{Id: id, Kind: 2, Query: api.Query{Kind: 2, From: from, To: to}})
}

func cancel(t *testing.T, id int) string {
	t.Helper()
	return put(t, api.Request{Id: id, Kind: 4})
}

func code(id int, code api.Errno) string {
	s, _ := frame.PutReply(api.Reply{Id: id, Code: code})
	return s
}

func found(id, d int) string {
	s, _ := frame.PutReply(api.Reply{Id: id, Answer: api.Answer{Found: true, D: d}})
	return s
}

// notFound is a reply of OK with a zero answer.
func notFound(id int) string { return code(id, api.OK) }

// come checks what Come tells; an empty reply is none.
func come(t *testing.T, s *server.Server, f, want string) {
	t.Helper()
	if got, ok := s.Come(f); got != want || ok != (want != "") {
		t.Errorf("Come(%q) = %q, %v, not %q", f, got, ok, want)
	}
}

func tick(t *testing.T, s *server.Server, want ...string) {
	t.Helper()
	if got := s.Tick([]int{3, -1}); !slices.Equal(got, want) {
		t.Errorf("Tick = %q, not %q", got, want)
	}
}

// query is one of three kinds, by numbers.
func query(r *sample.Row, n int) api.Query {
	q := api.Query{Kind: 1 + r.Below(3), From: r.Below(n)}
	if q.Kind < 3 {
		q.To = r.Below(n)
		return q
	}
	q.Words = [][]string{{"a"}, {"b", "c"}, {"d"}, {"e"}}[r.Below(4)]
	q.Radius, q.Most = r.Below(4)*r.Below(4), 1+r.Below(4)
	return q
}

func TestP25_1New(t *testing.T) {
	w := of(t, sample.Line(2))
	ok := api.Config{Workers: 1, Slots: 1, Queue: 1, Pool: 1, Budget: 1}
	most := api.Config{Workers: 16, Slots: 64, Queue: 1000, Pool: 400, Budget: 1000}
	for _, c := range []api.Config{ok, most} {
		s := w.server(t, c)
		if len(s.Held()) != 0 || len(s.Waits()) != 0 || !slices.Equal(s.Live(), make([]int, c.Workers)) || len(s.Tick(nil)) != 0 {
			t.Errorf("%v: %v, %v, %v", c, s.Held(), s.Waits(), s.Live())
		}
		if s, e := server.New(c, "wg\x00"); s != nil || e != api.ErrImage {
			t.Errorf("no image: %d", e)
		}
	}
	for i, part := range []func(c *api.Config) *int{
		func(c *api.Config) *int { return &c.Workers }, func(c *api.Config) *int { return &c.Slots }, func(c *api.Config) *int { return &c.Queue },
		func(c *api.Config) *int { return &c.Pool }, func(c *api.Config) *int { return &c.Budget },
	} {
		for _, n := range []int{0, -1, least, greatest, *part(&most) + 1} {
			c := most
			*part(&c) = n
			for _, picture := range []string{w.s, ""} {
				if s, e := server.New(c, picture); s != nil || e != api.ErrArg {
					t.Errorf("part %d is %d: %d", i, n, e)
				}
			}
		}
	}
}

func TestP25_2And3Example(t *testing.T) {
	s := of(t, sample.Line(2)).server(t, api.Config{Workers: 1, Slots: 1, Queue: 1, Pool: 9, Budget: 9})
	come(t, s, dist(t, 7, 0, 1), "")
	come(t, s, dist(t, 8, 0, 1), code(8, api.ErrQueue))
	tick(t, s)
	tick(t, s, found(7, 1))
	tick(t, s)
}

func TestP25_2NoRequest(t *testing.T) {
	s := of(t, sample.Line(2)).server(t, roomy(2, 1, 2))
	for _, f := range []string{"", "\x80", "\x80\x00", "\xff\xff\xff\xff\x08\x01"} {
		come(t, s, f, "")
	}
	for f, id := range map[string]int{"\x07": 7, "\xac\x02\x09": 300, "\x07\x01\x00\x01\x00": 7, "\x07\x01\xc8\x01\x00": 7, "\x07\x04\x00": 7, "\x07\x03\x00\x01\x01A\x00\x01": 7, "x": 'x'} {
		come(t, s, f, code(id, api.ErrFrame))
	}
	if len(s.Waits()) != 0 {
		t.Errorf("%v wait", s.Waits())
	}
}

func TestP25_2OrderOfErrors(t *testing.T) {
	s := of(t, sample.Line(3)).server(t, api.Config{Workers: 2, Slots: 1, Queue: 1, Pool: 9, Budget: 9})
	come(t, s, reach(t, 1, 0, 2), "")
	tick(t, s)
	come(t, s, dist(t, 2, 0, 2), "")
	if !slices.Equal(s.Held(), []int{1}) || !slices.Equal(s.Waits(), []int{2}) {
		t.Fatalf("%v, %v", s.Held(), s.Waits())
	}
	come(t, s, dist(t, 1, 0, 3), code(1, api.ErrQuery))
	come(t, s, dist(t, 2, 3, 0), code(2, api.ErrQuery))
	come(t, s, dist(t, 3, 199, 0), code(3, api.ErrQuery))
	come(t, s, dist(t, 1, 0, 2), code(1, api.ErrThere))
	come(t, s, reach(t, 2, 0, 2), code(2, api.ErrThere))
	come(t, s, reach(t, 3, 0, 2), code(3, api.ErrQueue))
	come(t, s, cancel(t, 3), code(3, api.ErrNone))
	if !slices.Equal(s.Held(), []int{1}) || !slices.Equal(s.Waits(), []int{2}) {
		t.Errorf("%v, %v", s.Held(), s.Waits())
	}
}

func TestP25_2Cancel(t *testing.T) {
	s := of(t, sample.Line(3)).server(t, api.Config{Workers: 1, Slots: 1, Queue: 3, Pool: 9, Budget: 9})
	come(t, s, cancel(t, 0), code(0, api.ErrNone))
	for id := 1; id <= 3; id++ {
		come(t, s, reach(t, id, 0, 2), "")
	}
	tick(t, s)
	come(t, s, cancel(t, 2), code(2, api.ErrGone))
	if !slices.Equal(s.Waits(), []int{3}) || !slices.Equal(s.Held(), []int{1}) || !slices.Equal(s.Live(), []int{1}) {
		t.Errorf("%v, %v, %v", s.Waits(), s.Held(), s.Live())
	}
	come(t, s, cancel(t, 2), code(2, api.ErrNone))
	come(t, s, cancel(t, 1), code(1, api.ErrGone))
	if len(s.Held()) != 0 || !slices.Equal(s.Live(), []int{0}) {
		t.Errorf("%v, %v", s.Held(), s.Live())
	}
	// What was taken back may come anew, and begins anew.
	come(t, s, reach(t, 1, 2, 2), "")
	tick(t, s)
	tick(t, s)
	tick(t, s, found(3, 0))
	tick(t, s, found(1, 0))
}

func TestP25_3RepliesInOrder(t *testing.T) {
	s := of(t, sample.Line(3)).server(t, api.Config{Workers: 2, Slots: 3, Queue: 9, Pool: 20, Budget: 9})
	come(t, s, dist(t, 9, 0, 2), "")
	come(t, s, dist(t, 5, 1, 1), "")
	come(t, s, dist(t, 7, 2, 2), "")
	come(t, s, dist(t, 3, 0, 0), "")
	tick(t, s, found(5, 0), found(7, 0))
	if !slices.Equal(s.Held(), []int{9}) || !slices.Equal(s.Waits(), []int{3}) {
		t.Errorf("a slot that gets free is filled by the next tick alone: %v, %v", s.Held(), s.Waits())
	}
	come(t, s, dist(t, 4, 0, 0), "")
	tick(t, s, found(9, 2), found(3, 0), found(4, 0))
}

// Place 0 leads to 1, 2, 3: with room for four states at one worker the query fits, with three it does not.
func TestP25_3State(t *testing.T) {
	w := of(t, sample.Plain(5, 0, 1, 0, 2, 0, 3))
	for pool, want := range map[int]string{4: notFound(1), 3: code(1, api.ErrState)} {
		s := w.server(t, api.Config{Workers: 1, Slots: 2, Queue: 9, Pool: pool, Budget: 9})
		come(t, s, reach(t, 1, 0, 4), "")
		tick(t, s)
		tick(t, s, want)
		if !slices.Equal(s.Live(), []int{0}) {
			t.Errorf("pool %d: %v", pool, s.Live())
		}
	}
}

func TestP25_3StateOfAllSlots(t *testing.T) {
	w := of(t, sample.Plain(5, 0, 1, 0, 2, 0, 3))
	s := w.server(t, api.Config{Workers: 1, Slots: 2, Queue: 9, Pool: 4, Budget: 9})
	come(t, s, reach(t, 1, 0, 4), "")
	come(t, s, reach(t, 2, 0, 4), "")
	tick(t, s)
	// The first one has one state more than there is room for, beside that of the second one, which goes on.
	tick(t, s, code(1, api.ErrState), notFound(2))
	s = w.server(t, api.Config{Workers: 1, Slots: 2, Queue: 9, Pool: 1, Budget: 9})
	come(t, s, reach(t, 1, 4, 0), "")
	come(t, s, reach(t, 2, 4, 4), "")
	tick(t, s, notFound(1), found(2, 0))
	// Not enough room counts more than that the answer would be known.
	come(t, s, dist(t, 3, 0, 0), "")
	tick(t, s, code(3, api.ErrState))
}

func TestP25_3Budget(t *testing.T) {
	w := of(t, sample.Line(3))
	for budget, want := range map[int]string{2: code(1, api.ErrBudget), 3: found(1, 0)} {
		s := w.server(t, api.Config{Workers: 2, Slots: 1, Queue: 9, Pool: 9, Budget: budget})
		come(t, s, reach(t, 1, 0, 2), "")
		for range budget - 1 {
			tick(t, s)
		}
		tick(t, s, want)
		if !slices.Equal(s.Live(), []int{0, 0}) || len(s.Held()) != 0 {
			t.Errorf("%d: %v", budget, s.Live())
		}
	}
}

// model works P25.2 and P25.3 out as they are told, by steps of one worker without picks.
type model struct {
	c     api.Config
	w     world
	waits []api.Request
	slots []*slot
}

type slot struct {
	x      api.Request
	states []api.State
	mails  []api.Mail
	steps  int
}

func (m *model) held(id int) int {
	return slices.IndexFunc(m.slots, func(h *slot) bool { return h != nil && h.x.Id == id })
}

func (m *model) come(x api.Request) string {
	waiting := slices.IndexFunc(m.waits, func(y api.Request) bool { return y.Id == x.Id })
	at := m.held(x.Id)
	switch {
	case x.Kind == 4 && waiting >= 0:
		m.waits = slices.Delete(m.waits, waiting, waiting+1)
		return code(x.Id, api.ErrGone)
	case x.Kind == 4 && at >= 0:
		m.slots[at] = nil
		return code(x.Id, api.ErrGone)
	case x.Kind == 4:
		return code(x.Id, api.ErrNone)
	case prog.Check(x.Query, m.w.g.N) != api.OK:
		return code(x.Id, api.ErrQuery)
	case waiting >= 0 || at >= 0:
		return code(x.Id, api.ErrThere)
	case len(m.waits) >= m.c.Queue:
		return code(x.Id, api.ErrQueue)
	}
	m.waits = append(m.waits, x)
	return ""
}

func (m *model) live() []int {
	live := make([]int, m.c.Workers)
	for _, h := range m.slots {
		if h == nil {
			continue
		}
		for _, x := range h.states {
			home, _ := part.Home(x.Key.V, m.c.Workers)
			live[home]++
		}
	}
	return live
}

func (m *model) tick() []string {
	for i := range m.slots {
		if m.slots[i] == nil && len(m.waits) > 0 {
			m.slots[i] = &slot{x: m.waits[0], mails: prog.Start(m.waits[0].Query, i)}
			m.waits = m.waits[1:]
		}
	}
	var told []string
	for i, h := range m.slots {
		if h == nil {
			continue
		}
		h.states, h.mails, _ = round.Step(h.x.Query, m.w.rows, h.states, h.mails, 1, nil)
		h.steps++
		answer, done := prog.Done(h.x.Query, m.w.l, h.states, h.mails)
		s, _ := frame.PutReply(api.Reply{Id: h.x.Id, Answer: answer})
		switch {
		case slices.Max(m.live()) > m.c.Pool:
			s = code(h.x.Id, api.ErrState)
		case done:
		case h.steps == m.c.Budget:
			s = code(h.x.Id, api.ErrBudget)
		default:
			continue
		}
		told = append(told, s)
		m.slots[i] = nil
	}
	return told
}

func TestP25_2To4AgainstAModel(t *testing.T) {
	codes := map[api.Errno]int{}
	for seed := range 60 {
		r := sample.New(seed)
		w := of(t, sample.Graph(seed, 2+r.Below(20), 50))
		c := api.Config{Workers: 1 + r.Below(16), Slots: 1 + r.Below(5), Queue: 1 + r.Below(6), Pool: 3 + r.Below(40), Budget: 1 + r.Below(9)}
		s, m := w.server(t, c), &model{c: c, w: w, slots: make([]*slot, c.Slots)}
		for range 150 {
			if r.Below(5) < 3 {
				x := api.Request{Id: r.Below(9), Kind: 4}
				if r.Below(6) > 0 {
					x.Query = query(r, w.g.N+1)
					x.Kind = x.Query.Kind
				}
				come(t, s, put(t, x), m.come(x))
			} else {
				want := m.tick()
				if got := s.Tick(r.Picks(r.Below(20))); !slices.Equal(got, want) {
					t.Fatalf("%d: Tick = %q, not %q", seed, got, want)
				}
				for _, f := range want {
					reply, _ := frame.GetReply(f)
					codes[reply.Code]++
				}
			}
			var held, waits []int
			for _, h := range m.slots {
				if h != nil {
					held = append(held, h.x.Id)
				}
			}
			for _, x := range m.waits {
				waits = append(waits, x.Id)
			}
			if !slices.Equal(s.Live(), m.live()) || !slices.Equal(s.Held(), held) || !slices.Equal(s.Waits(), waits) {
				t.Fatalf("%d: %v, %v, %v, not %v, %v, %v", seed, s.Live(), s.Held(), s.Waits(), m.live(), held, waits)
			}
			if slices.Max(s.Live()) > c.Pool || len(held) > c.Slots || len(held) == 0 && slices.Max(s.Live()) > 0 {
				t.Fatalf("%d: P25.6: %v, %v", seed, s.Live(), held)
			}
		}
	}
	for _, c := range []api.Errno{api.OK, api.ErrState, api.ErrBudget} {
		if codes[c] < 20 {
			t.Errorf("%d replies of %d", codes[c], c)
		}
	}
}

func TestP25_4NoServer(t *testing.T) {
	var zero server.Server
	for _, s := range []*server.Server{nil, &zero} {
		for _, f := range []string{"", "\x07", dist(t, 1, 0, 0), cancel(t, 1)} {
			come(t, s, f, "")
		}
		if len(s.Tick([]int{1})) != 0 || len(s.Live()) != 0 || len(s.Held()) != 0 || len(s.Waits()) != 0 {
			t.Errorf("no server")
		}
	}
}

// All queries at once: what is told hangs on no picks, no number of workers, and is what Ask tells, and what is told of each one alone.
func TestP25_5WhatFollows(t *testing.T) {
	for seed := range 12 {
		r := sample.New(seed)
		w := of(t, sample.Graph(seed, 2+r.Below(30), 60))
		slots := 1 + r.Below(6)
		var asked []api.Query
		for range 20 {
			asked = append(asked, query(r, w.g.N))
		}
		var first []string
		for workers := 1; workers <= 16; workers += 5 {
			c := roomy(workers, slots, w.g.N)
			s := w.server(t, c)
			for id, q := range asked {
				come(t, s, put(t, api.Request{Id: id, Kind: q.Kind, Query: q}), "")
			}
			var told []string
			for range (len(asked) + 1) * (c.Budget + 2) {
				told = append(told, s.Tick(r.Picks(workers))...)
			}
			if first == nil {
				first = told
			}
			if !slices.Equal(told, first) || len(told) != len(asked) {
				t.Fatalf("%d: %d workers: %q, not %q", seed, workers, told, first)
			}
		}
		for _, f := range first {
			got, _ := frame.GetReply(f)
			want, _ := job.Ask(asked[got.Id], w.rows, w.l)
			if got.Code != api.OK || got.Answer.Found != want.Found || got.Answer.D != want.D || !slices.Equal(got.Answer.Hits, want.Hits) {
				t.Errorf("%d: %v, not %v", seed, got, want)
			}
			alone := w.server(t, roomy(3, 1, w.g.N))
			alone.Come(put(t, api.Request{Id: got.Id, Kind: asked[got.Id].Kind, Query: asked[got.Id]}))
			var told []string
			for range w.g.N + 2 {
				told = append(told, alone.Tick(nil)...)
			}
			if !slices.Equal(told, []string{f}) {
				t.Errorf("%d: alone %q, not %q", seed, told, f)
			}
		}
	}
}

// With little room and few steps each request has one reply still, and none of them is a wrong answer.
func TestP25_5LittleRoom(t *testing.T) {
	for seed := range 20 {
		r := sample.New(seed)
		w := of(t, sample.Graph(seed, 20, 45))
		c := api.Config{Workers: 1 + r.Below(4), Slots: 4, Queue: 30, Pool: 5 + r.Below(30), Budget: 2 + r.Below(5)}
		s := w.server(t, c)
		var asked []api.Query
		for id := range 30 {
			asked = append(asked, query(r, w.g.N))
			come(t, s, put(t, api.Request{Id: id, Kind: asked[id].Kind, Query: asked[id]}), "")
		}
		seen := map[int]int{}
		for range 31 * (c.Budget + 2) {
			for _, f := range s.Tick(r.Picks(3)) {
				got, e := frame.GetReply(f)
				seen[got.Id]++
				want, _ := job.Ask(asked[got.Id], w.rows, w.l)
				if e != api.OK || got.Code == api.OK && (got.Answer.Found != want.Found || got.Answer.D != want.D || !slices.Equal(got.Answer.Hits, want.Hits)) {
					t.Errorf("%d: %v, not %v", seed, got, want)
				}
				if got.Code != api.OK && got.Code != api.ErrState && got.Code != api.ErrBudget {
					t.Errorf("%d: %v", seed, got)
				}
			}
		}
		for id := range 30 {
			if seen[id] != 1 {
				t.Errorf("%d: %d replies to %d", seed, seen[id], id)
			}
		}
		if slices.Max(s.Live()) != 0 || len(s.Held()) != 0 || len(s.Waits()) != 0 {
			t.Errorf("%d: %v, %v, %v", seed, s.Live(), s.Held(), s.Waits())
		}
	}
}

func TestR2NothingShared(t *testing.T) {
	s := of(t, sample.Line(2)).server(t, api.Config{Workers: 2, Slots: 1, Queue: 3, Pool: 9, Budget: 9})
	picks := []int{5, -1}
	for id := 1; id <= 3; id++ {
		come(t, s, reach(t, id, 0, 1), "")
	}
	s.Tick(picks)
	s.Live()[0], s.Held()[0], s.Waits()[0] = 99, 99, 99
	if !slices.Equal(picks, []int{5, -1}) || slices.Contains(s.Live(), 99) || s.Held()[0] != 1 || s.Waits()[0] != 2 {
		t.Errorf("%v, %v, %v, %v", picks, s.Live(), s.Held(), s.Waits())
	}
}
