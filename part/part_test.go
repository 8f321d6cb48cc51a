package part_test

import (
	"slices"
	"testing"

	"wayside/api"
	"wayside/part"
	"wayside/sample"
)

func TestP6_1Home(t *testing.T) {
	for v, want := range []int{1, 0, 3} {
		if h, ok := part.Home(v, 4); h != want || !ok {
			t.Errorf("%d: %d, %v", v, h, ok)
		}
	}
	for _, v := range []int{0, 1, 5, 199, 65535, 65536, 999999, 1000000} {
		for workers := 1; workers <= 16; workers++ {
			want := (v*40503 + 12345) & 65535 % workers
			if h, ok := part.Home(v, workers); h != want || !ok {
				t.Errorf("%d of %d: %d, %v", v, workers, h, ok)
			}
		}
	}
	for _, x := range [][2]int{{-1, 4}, {1000001, 4}, {0, 0}, {0, 17}, {0, -1}, {1<<63 - 1, 4}, {-1 << 63, 4}, {0, -1 << 63}} {
		if h, ok := part.Home(x[0], x[1]); h != 0 || ok {
			t.Errorf("%v: %d, %v", x, h, ok)
		}
	}
}

func TestP6_2Parts(t *testing.T) {
	l, e := part.Parts(3, 2)
	if e != api.OK || len(l) != 2 || !slices.Equal(l[0], []int{1}) || !slices.Equal(l[1], []int{0, 2}) {
		t.Errorf("%v, %d", l, e)
	}
	if l, e := part.Parts(0, 3); len(l) != 3 || len(l[0])+len(l[1])+len(l[2]) != 0 || e != api.OK {
		t.Errorf("%v, %d", l, e)
	}
	for _, x := range [][2]int{{-1, 2}, {201, 2}, {3, 0}, {3, 17}, {3, -1}, {1<<63 - 1, 1}} {
		if l, e := part.Parts(x[0], x[1]); l != nil || e != api.ErrArg {
			t.Errorf("%v: %v, %d", x, l, e)
		}
	}
}

func TestP6_2Split(t *testing.T) {
	l, e := part.Split([]int{2, 1, 0, 1, 1000000}, 2)
	if e != api.OK || len(l) != 2 || !slices.Equal(l[0], []int{1, 1}) || !slices.Equal(l[1], []int{2, 0, 1000000}) {
		t.Errorf("%v, %d", l, e)
	}
	for i, x := range []struct {
		l       []int
		workers int
	}{{nil, 0}, {nil, 17}, {[]int{1}, -1}, {[]int{1, -1}, 2}, {[]int{1, 1000001, 2}, 2}} {
		if l, e := part.Split(x.l, x.workers); l != nil || e != api.ErrArg {
			t.Errorf("%d: %v, %d", i, l, e)
		}
	}
	if l, e := part.Split(nil, 16); len(l) != 16 || e != api.OK {
		t.Errorf("%v, %d", l, e)
	}
}

func TestP6_3Merge(t *testing.T) {
	for _, x := range []struct {
		l    [][]int
		want []int
	}{
		{nil, nil}, {[][]int{nil, {}}, nil}, {[][]int{{3, 1}, nil, {2, 1}}, []int{1, 1, 2, 3}},
		{[][]int{{1<<63 - 1, 0}, {-1 << 63}}, []int{-1 << 63, 0, 1<<63 - 1}}, {[][]int{{5, 5}, {5}}, []int{5, 5, 5}},
	} {
		if got := part.Merge(x.l); !slices.Equal(got, x.want) {
			t.Errorf("%v: %v", x.l, got)
		}
	}
}

func TestP6_4WhatFollows(t *testing.T) {
	for workers := 1; workers <= 16; workers++ {
		for _, n := range []int{0, 1, 7, 199, 200} {
			parts, e := part.Parts(n, workers)
			if e != api.OK || len(parts) != workers {
				t.Fatalf("%d of %d: %d", n, workers, e)
			}
			for home, l := range parts {
				if !slices.IsSorted(l) {
					t.Errorf("%v falls", l)
				}
				for _, v := range l {
					if h, _ := part.Home(v, workers); h != home {
						t.Errorf("%d is at home with %d", v, h)
					}
				}
			}
			all := part.Merge(parts)
			for v := range n {
				if v >= len(all) || all[v] != v || len(all) != n {
					t.Fatalf("%d of %d: %v", n, workers, all)
				}
			}
			if workers == 1 && len(parts[0]) != n {
				t.Errorf("of one worker all is its own: %v", parts)
			}
		}
		r := sample.New(workers)
		var l []int
		for range 300 {
			l = append(l, r.Below(1000001))
		}
		parts, _ := part.Split(l, workers)
		slices.Sort(l)
		if got := part.Merge(parts); !slices.Equal(got, l) {
			t.Errorf("%d: split and merged: %v", workers, got)
		}
	}
}

func TestR2NothingShared(t *testing.T) {
	l := []int{3, 1, 2}
	parts, _ := part.Split(l, 1)
	parts[0][0] = 9
	rows := [][]int{{3, 1}, {2}}
	part.Merge(rows)[0] = 9
	part.Merge([][]int{l})[0] = 8
	if !slices.Equal(l, []int{3, 1, 2}) || !slices.Equal(rows[0], []int{3, 1}) || !slices.Equal(rows[1], []int{2}) {
		t.Errorf("%v, %v", l, rows)
	}
	parts, _ = part.Parts(200, 16)
	for i := range parts {
		_ = append(parts[i], -1)
	}
	if again, _ := part.Parts(200, 16); !slices.Equal(part.Merge(parts), part.Merge(again)) {
		t.Errorf("parts share memory")
	}
}
