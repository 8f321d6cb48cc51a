package frame_test

import (
	"slices"
	"strings"
	"testing"

	"wayside/api"
	"wayside/frame"
	"wayside/sample"
)

const least, greatest = -1 << 63, 1<<63 - 1

func sameRequest(a, b api.Request) bool {
	p, q := a.Query, b.Query
	return a.Id == b.Id && a.Kind == b.Kind && p.Kind == q.Kind && p.From == q.From && p.To == q.To && slices.Equal(p.Words, q.Words) && p.Radius == q.Radius && p.Most == q.Most
}

func sameReply(a, b api.Reply) bool {
	return a.Id == b.Id && a.Code == b.Code && a.Answer.Found == b.Answer.Found && a.Answer.D == b.Answer.D && slices.Equal(a.Answer.Hits, b.Answer.Hits)
}

func asks(id, kind, from, to int) api.Request {
	return api.Request{Id: id, Kind: kind, Query: api.Query{Kind: kind, From: from, To: to}}
}

func near(id, from, radius, most int, words ...string) api.Request {
	return api.Request{Id: id, Kind: 3, Query: api.Query{Kind: 3, From: from, Words: words, Radius: radius, Most: most}}
}

func found(id, d int, hits ...api.Hit) api.Reply {
	return api.Reply{Id: id, Answer: api.Answer{Found: true, D: d, Hits: hits}}
}

// requests may be, with their bytes.
func requests() map[string]api.Request {
	return map[string]api.Request{
		"\xac\x02\x01\x02\x05": asks(300, 1, 2, 5), "\x00\x02\x00\xc7\x01": asks(0, 2, 0, 199), "\xff\xff\xff\xff\x07\x04": {Id: api.MaxNumber, Kind: 4},
		"\x07\x03\x05\x02\x01b\x02ab\xc8\x01\x64": near(7, 5, 200, 100, "b", "ab"), "\x07\x03\x00\x01\x0cabcdefghijkl\x00\x01": near(7, 0, 0, 1, "abcdefghijkl"),
		"\x07\x03\x00\x08\x01a\x01a\x01a\x01a\x01a\x01a\x01a\x01a\x00\x01": near(7, 0, 0, 1, "a", "a", "a", "a", "a", "a", "a", "a"),
	}
}

// wrongRequests may not be.
func wrongRequests() []api.Request {
	l := []api.Request{
		{}, asks(-1, 1, 0, 0), asks(api.MaxNumber+1, 1, 0, 0), asks(1, 0, 0, 0), asks(1, -1, 0, 0), asks(1, 4, 0, 0), asks(1, 5, 0, 0), asks(1, 3, 0, 0), asks(least, least, 0, 0),
		asks(1, 1, 200, 0), asks(1, 1, 0, 200), asks(1, 2, -1, 0), asks(1, 2, 0, -1), {Id: 1, Kind: 1, Query: api.Query{Kind: 2}}, {Id: 1, Kind: 2, Query: api.Query{Kind: 1}},
		{Id: 1, Kind: 1}, {Id: 1, Kind: 5}, {Id: -1, Kind: 4}, {Id: api.MaxNumber + 1, Kind: 4},
		near(1, 0, 1, 1), near(1, 0, 1, 1, "A"), near(1, 0, 1, 1, "a", ""), near(1, 200, 1, 1, "a"), near(1, -1, 1, 1, "a"), near(1, 0, -1, 1, "a"), near(1, 0, 201, 1, "a"),
		near(1, 0, 1, 0, "a"), near(1, 0, 1, 101, "a"), near(1, 0, 1, greatest, "a"), near(1, 0, 1, 1, "a", "a", "a", "a", "a", "a", "a", "a", "a"), near(1, 0, 1, 1, "abcdefghijklm"),
	}
	for kind := range 5 {
		with := func(q api.Query) api.Request { return api.Request{Id: 1, Kind: kind, Query: q} }
		if kind < 3 {
			l = append(l, with(api.Query{Kind: kind, Words: []string{"a"}}), with(api.Query{Kind: kind, Radius: 1}), with(api.Query{Kind: kind, Most: 1}))
		}
		if kind == 3 {
			l = append(l, with(api.Query{Kind: 3, To: 1, Words: []string{"a"}, Most: 1}))
		}
		if kind == 4 {
			l = append(l, with(api.Query{From: 1}), with(api.Query{To: -1}), with(api.Query{Words: []string{""}}), with(api.Query{Radius: 1}), with(api.Query{Most: 1}), with(api.Query{Kind: 1}))
		}
	}
	return l
}

// replies may be, with their bytes.
func replies() map[string]api.Reply {
	return map[string]api.Reply{
		"\x07\x00\x01\x03\x00": found(7, 3), "\x07\xfb\x01": {Id: 7, Code: 251}, "\x00\x00\x00\x00\x00": {}, "\xff\xff\xff\xff\x07\xe8\x07": {Id: api.MaxNumber, Code: 1000},
		"\x01\x00\x01\x90\x03\x00": found(1, 400), "\x01\x00\x01\x00\x02\xc7\x01\xc8\x01\x00\x00": found(1, 0, api.Hit{V: 199, D: 200}, api.Hit{}), "\x01\x00\x01\x00\x00": found(1, 0),
		"\x02\x00\x01\x00\x64" + strings.Repeat("\x01\x02", 100): found(2, 0, slices.Repeat([]api.Hit{{V: 1, D: 2}}, 100)...),
	}
}

// wrongReplies may not be.
func wrongReplies() []api.Reply {
	one := api.Hit{V: 1, D: 1}
	return []api.Reply{
		{Id: -1}, {Id: api.MaxNumber + 1}, {Code: -1}, {Code: 1001}, {Code: least}, {Code: 1, Answer: api.Answer{Found: true}}, {Code: 1, Answer: api.Answer{D: 1}},
		{Code: 1, Answer: api.Answer{Hits: []api.Hit{one}}}, {Answer: api.Answer{D: 1}}, {Answer: api.Answer{Hits: []api.Hit{one}}}, found(1, 401), found(1, -1), found(1, greatest),
		found(1, 1, one), found(1, 0, one, api.Hit{V: 200}), found(1, 0, api.Hit{V: -1}, one), found(1, 0, api.Hit{D: 201}), found(1, 0, api.Hit{D: -1}), found(1, 0, slices.Repeat([]api.Hit{one}, 101)...),
	}
}

func TestP22_1Requests(t *testing.T) {
	for s, x := range requests() {
		if b, e := frame.PutRequest(x); b != s || e != api.OK {
			t.Errorf("%v: %q, %d", x, b, e)
		}
		if got, e := frame.GetRequest(s); !sameRequest(got, x) || e != api.OK {
			t.Errorf("%q: %v, %d", s, got, e)
		}
	}
	empty := asks(300, 1, 2, 5)
	empty.Query.Words = []string{}
	if b, e := frame.PutRequest(empty); b != "\xac\x02\x01\x02\x05" || e != api.OK {
		t.Errorf("no words: %q, %d", b, e)
	}
	for i, x := range wrongRequests() {
		if b, e := frame.PutRequest(x); b != "" || e != api.ErrArg {
			t.Errorf("%d: %q, %d", i, b, e)
		}
	}
}

func TestP22_1NoRequest(t *testing.T) {
	bad := []string{
		"", "\x07", "\x07\x00", "\x07\x05", "\x07\x80\x00", "\x80\x00\x04", "\x07\x01\xc8\x01\x00", "\x07\x02\x00\xc8\x01", "\x07\x03\x00\x00\x00\x01", "\x07\x03\xc8\x01\x01\x01a\x00\x01",
		"\x07\x03\x00\x01\x01A\x00\x01", "\x07\x03\x00\x01\x00\x00\x01", "\x07\x03\x00\x01\x01a\xc9\x01\x01", "\x07\x03\x00\x01\x01a\x00\x00", "\x07\x03\x00\x01\x01a\x00\x65",
		"\x07\x03\x00\x09" + strings.Repeat("\x01a", 9) + "\x00\x01", "\x07\x03\x00\xff\xff\xff\xff\x07", "\x07\x03\x00\x01\x0dabcdefghijklm\x00\x01", "\xff\xff\xff\xff\x08\x04",
	}
	for s := range requests() {
		bad = append(bad, s+"\x00")
		for n := range len(s) {
			bad = append(bad, s[:n])
		}
	}
	for _, s := range bad {
		if x, e := frame.GetRequest(s); !sameRequest(x, api.Request{}) || e != api.ErrFrame {
			t.Errorf("%q: %v, %d", s, x, e)
		}
	}
}

func TestP22_1Replies(t *testing.T) {
	for s, x := range replies() {
		if b, e := frame.PutReply(x); b != s || e != api.OK {
			t.Errorf("%v: %q, %d", x, b, e)
		}
		if got, e := frame.GetReply(s); !sameReply(got, x) || e != api.OK {
			t.Errorf("%q: %v, %d", s, got, e)
		}
	}
	for i, x := range wrongReplies() {
		if b, e := frame.PutReply(x); b != "" || e != api.ErrArg {
			t.Errorf("%d: %q, %d", i, b, e)
		}
	}
}

func TestP22_1NoReply(t *testing.T) {
	bad := []string{
		"", "\x07", "\x07\x00", "\x07\xe9\x07", "\x07\x00\x02\x00\x00", "\x07\x00\x00\x01\x00", "\x07\x00\x00\x00\x01\x00\x00", "\x07\x00\x01\x91\x03\x00", "\x07\x00\x01\x01\x01\x00\x00",
		"\x07\x00\x01\x00\x01\xc8\x01\x00", "\x07\x00\x01\x00\x01\x00\xc9\x01", "\x07\x00\x01\x00\x65" + strings.Repeat("\x00\x00", 101), "\x07\x00\x01\x00\xff\xff\xff\xff\x07", "\x07\xfb\x01\x00\x00\x00",
	}
	for s := range replies() {
		bad = append(bad, s+"\x00")
		for n := range len(s) {
			bad = append(bad, s[:n])
		}
	}
	for _, s := range bad {
		if x, e := frame.GetReply(s); !sameReply(x, api.Reply{}) || e != api.ErrFrame {
			t.Errorf("%q: %v, %d", s, x, e)
		}
	}
}

func TestP22_2Id(t *testing.T) {
	for s, want := range map[string]int{"\x00": 0, "\x07": 7, "\xac\x02": 300, "\xac\x02\x80\x00junk": 300, "\xff\xff\xff\xff\x07\xff": api.MaxNumber, "x": 'x'} {
		if id, ok := frame.Id(s); id != want || !ok {
			t.Errorf("%q: %d, %v", s, id, ok)
		}
	}
	for _, s := range []string{"", "\x80", "\x80\x00", "\xff\xff\xff\xff\x08", "\xff\xff\xff\xff\xff\x01"} {
		if id, ok := frame.Id(s); id != 0 || ok {
			t.Errorf("%q: %d, %v", s, id, ok)
		}
	}
}

// some is bytes of a few numbers, by a seed: often nearly a frame.
func some(r *sample.Row) string {
	var b []byte
	for range r.Below(9) {
		b = append(b, []byte{0, 1, 2, 3, 4, 'a', 'b', 0xc7, 0xc8, 0x80}[r.Below(10)])
	}
	return string(b)
}

func TestP22_3WhatFollows(t *testing.T) {
	r := sample.New(5)
	got := 0
	for range 200000 {
		s := some(r)
		if x, e := frame.GetRequest(s); e == api.OK {
			got++
			b, f := frame.PutRequest(x)
			if id, ok := frame.Id(s); b != s || f != api.OK || id != x.Id || !ok {
				t.Fatalf("%q: %v is put as %q, %d", s, x, b, f)
			}
		}
		if x, e := frame.GetReply(s); e == api.OK {
			got++
			b, f := frame.PutReply(x)
			if id, ok := frame.Id(s); b != s || f != api.OK || id != x.Id || !ok {
				t.Fatalf("%q: %v is put as %q, %d", s, x, b, f)
			}
		}
	}
	if got < 1000 {
		t.Errorf("%d were got", got)
	}
}

func TestR2NothingShared(t *testing.T) {
	x := near(7, 5, 2, 3, "b", "ab")
	s, _ := frame.PutRequest(x)
	a, _ := frame.GetRequest(s)
	a.Query.Words[0] = "z"
	y := found(7, 0, api.Hit{V: 1})
	u, _ := frame.PutReply(y)
	b, _ := frame.GetReply(u)
	b.Answer.Hits[0].V = 9
	if x.Query.Words[0] != "b" || y.Answer.Hits[0].V != 1 {
		t.Errorf("%v, %v", x, y)
	}
}
