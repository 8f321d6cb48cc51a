package wait_test

import (
	"reflect"
	"slices"
	"testing"

	"wayside/api"
	"wayside/sample"
	"wayside/wait"
)

const least, greatest = -1 << 63, 1<<63 - 1

func request(id int) api.Request {
	return api.Request{Id: id, Kind: 3, Query: api.Query{Kind: 3, Words: []string{"a", "b"}, Most: id}}
}

func requests(ids ...int) []api.Request {
	var l []api.Request
	for _, id := range ids {
		l = append(l, request(id))
	}
	return l
}

func is(l []api.Request, ids ...int) bool {
	return len(l) == 0 && len(ids) == 0 || reflect.DeepEqual(l, requests(ids...))
}

func TestP23_1Put(t *testing.T) {
	for i, x := range []struct {
		l    []api.Request
		most int
		id   int
		want []int
		e    api.Errno
	}{
		{nil, 1, 1, []int{1}, api.OK}, {requests(1), 1, 2, nil, api.ErrQueue}, {requests(1), 1, 1, nil, api.ErrThere}, {requests(1), 2, 2, []int{1, 2}, api.OK},
		{requests(3, 1, 2), 4, 0, []int{3, 1, 2, 0}, api.OK}, {requests(3, 1, 2), 4, 2, nil, api.ErrThere}, {requests(3, 1, 2), 2, 9, nil, api.ErrQueue}, {requests(3, 1, 2), 2, 3, nil, api.ErrThere},
		{nil, 0, 1, nil, api.ErrQueue}, {nil, least, 1, nil, api.ErrQueue}, {nil, greatest, least, []int{least}, api.OK}, {requests(5, 5), 9, 5, nil, api.ErrThere},
	} {
		if l, e := wait.Put(x.l, x.most, request(x.id)); !is(l, x.want...) || e != x.e {
			t.Errorf("%d: %v, %d", i, l, e)
		}
	}
}

func TestP23_1Place(t *testing.T) {
	l := requests(3, 1, 3, least)
	for id, want := range map[int]int{3: 0, 1: 1, least: 3} {
		if at, ok := wait.Place(l, id); at != want || !ok {
			t.Errorf("%d: %d, %v", id, at, ok)
		}
	}
	for _, id := range []int{0, -1, greatest} {
		if at, ok := wait.Place(l, id); at != 0 || ok {
			t.Errorf("%d: %d, %v", id, at, ok)
		}
	}
	if at, ok := wait.Place(nil, 0); at != 0 || ok {
		t.Errorf("%d, %v", at, ok)
	}
}

func TestP23_2Next(t *testing.T) {
	x, l, ok := wait.Next(requests(3, 1, 2))
	if !reflect.DeepEqual(x, request(3)) || !is(l, 1, 2) || !ok {
		t.Errorf("%v, %v, %v", x, l, ok)
	}
	x, l, ok = wait.Next(requests(3))
	if !reflect.DeepEqual(x, request(3)) || len(l) != 0 || !ok {
		t.Errorf("%v, %v, %v", x, l, ok)
	}
	for _, none := range [][]api.Request{nil, {}} {
		if x, l, ok := wait.Next(none); !reflect.DeepEqual(x, api.Request{}) || len(l) != 0 || ok {
			t.Errorf("%v, %v, %v", x, l, ok)
		}
	}
}

func TestP23_2Take(t *testing.T) {
	for i, x := range []struct {
		l    []api.Request
		id   int
		want []int
		ok   bool
	}{
		{requests(3, 1, 2), 1, []int{3, 2}, true}, {requests(3, 1, 2), 3, []int{1, 2}, true}, {requests(3, 1, 2), 2, []int{3, 1}, true}, {requests(3), 3, nil, true},
		{requests(3, 1, 3), 3, []int{1, 3}, true}, {requests(3, 1, 2), 9, []int{3, 1, 2}, false}, {nil, 0, nil, false},
	} {
		if l, ok := wait.Take(x.l, x.id); !is(l, x.want...) || ok != x.ok {
			t.Errorf("%d: %v, %v", i, l, ok)
		}
	}
}

func TestP23_3WhatFollows(t *testing.T) {
	for seed := range 20 {
		r := sample.New(seed)
		var l []api.Request
		var ids []int
		for range 200 {
			id := r.Below(12)
			switch r.Below(3) {
			case 0:
				want := api.OK
				if slices.Contains(ids, id) {
					want = api.ErrThere
				} else if len(ids) >= 6 {
					want = api.ErrQueue
				} else {
					ids = append(ids, id)
				}
				next, e := wait.Put(l, 6, request(id))
				if e != want {
					t.Fatalf("%d: Put %d to %v: %d", seed, id, ids, e)
				}
				if e == api.OK {
					l = next
				}
			case 1:
				at := slices.Index(ids, id)
				next, ok := wait.Take(l, id)
				if ok != (at >= 0) {
					t.Fatalf("%d: Take %d of %v: %v", seed, id, ids, ok)
				}
				if ok {
					ids = slices.Delete(ids, at, at+1)
				}
				l = next
			default:
				x, next, ok := wait.Next(l)
				if ok != (len(ids) > 0) || ok && x.Id != ids[0] {
					t.Fatalf("%d: Next of %v: %v, %v", seed, ids, x, ok)
				}
				if ok {
					l, ids = next, ids[1:]
				}
			}
			if !is(l, ids...) {
				t.Fatalf("%d: %v, not %v", seed, l, ids)
			}
		}
	}
}

func TestR2NothingShared(t *testing.T) {
	room := requests(1, 2, 3, 4)
	l, x := room[:2], request(7)
	put, _ := wait.Put(l, 9, x)
	first, rest, _ := wait.Next(l)
	with, _ := wait.Take(l, 2)
	without, _ := wait.Take(l, 9)
	for _, out := range [][]api.Request{put, {first}, rest, with, without} {
		for i := range out {
			out[i].Query.Words[0] = "z"
			out[i].Id = 99
		}
		_ = append(out, request(88))
	}
	if !is(room, 1, 2, 3, 4) || x.Query.Words[0] != "a" {
		t.Errorf("%v, %v", room, x)
	}
}
