package desk_test

import (
	"strconv"
	"strings"
	"testing"

	"wayside/api"
	"wayside/desk"
	"wayside/sample"
)

// told runs a script of pairs: a line, and what has to be told of it.
func told(t *testing.T, pairs ...string) {
	t.Helper()
	var lines, want []string
	script := ""
	for i := 0; i < len(pairs); i += 2 {
		lines, want = append(lines, pairs[i]), append(want, pairs[i+1])
		script += pairs[i] + "\n"
	}
	s, e := desk.Run(script)
	got := strings.Split(strings.TrimSuffix(s, "\n"), "\n")
	if e != api.OK || !strings.HasSuffix(s, "\n") || len(got) != len(want) {
		t.Fatalf("%q, %d", s, e)
	}
	for i := range want {
		if got[i] != want[i] {
			t.Errorf("line %d, %q: %q, not %q", i, lines[i], got[i], want[i])
		}
	}
}

func TestP28_1Examples(t *testing.T) {
	told(t, "live", "none", "x", "what", "graph 3", "ok", "edge 0 1", "ok", "edge 1 2", "ok", "path 0 2", "0 1 2", "hubs", "8",
		"server 2 1 2 9 9", "ok", "dist 7 0 2", "ok", "tick", "-", "tick 5", "7 yes 2", "held", "-")
}

func TestP28_1Lines(t *testing.T) {
	for script, want := range map[string]string{
		"": "", "\n": "what\n", "\n\n": "what\nwhat\n", "hubs": "2\n", "hubs\n": "2\n", "hubs\n\n": "2\nwhat\n", "\nhubs": "what\n2\n", "hubs\r\n": "what\n", " hubs": "what\n", "\xff\x00": "what\n",
	} {
		if s, e := desk.Run(script); s != want || e != api.OK {
			t.Errorf("%q: %q, %d", script, s, e)
		}
	}
	long := strings.Repeat("hubs\n", 1200)
	if s, e := desk.Run(long); s != strings.Repeat("2\n", 1200) || e != api.OK {
		t.Errorf("6000 bytes: %d, %d", len(s), e)
	}
	if s, e := desk.Run(long + "\n"); s != "" || e != api.ErrLimit {
		t.Errorf("6001 bytes: %q, %d", s, e)
	}
}

func TestP28_1What(t *testing.T) {
	for _, line := range []string{
		"", " ", "Graph 3", "graph", "graph 3 3", "graph x", "graph -1", "graph +1", "graph 01", "graph 00", "graph 1000001", "graph 99999999999999999999", "graph ", "graph 3 ", "graph  3", "graph 1.0", "graph 0x1",
		"edge 0", "edge 0 0 0", "edge 0 -0", "edge a 0", "word 0", "word 0 a b", "word a a", "word", "path 0", "path 0 0 0", "path 0 x", "hubs 1", "hubs ", "server 1 1 1 1", "server 1 1 1 1 1 1", "server 1 1 1 1 x", "server",
		"dist 1 2", "dist 1 2 3 4", "dist -1 2 3", "reach 1 2", "reach 1 2 3 4", "near 1 2 3 4", "near 1 2 3 x a", "near", "cancel", "cancel 1 2", "cancel x", "cancel -1",
		"tick x", "tick -0", "tick 01", "tick -01", "tick 1000001", "tick -1000001", "tick ", "tick 1 ", "tick 1  2", "tick +1", "tick --1", "tick -", "live 1", "live ", "held 1", "waits 1",
	} {
		// A line that is not so is told so with a server, and without one.
		told(t, line, "what", "server 1 1 1 1 1", "ok", line, "what")
	}
	for _, line := range []string{"dist 1 2 3", "reach 1 2 3", "near 1 2 3 4 a b", "cancel 1", "tick", "tick 1 -1", "live", "held", "waits", "dist 1 999 3"} {
		told(t, line, "none", "server 0 1 1 1 1", "error 1", line, "none")
	}
}

func TestP28_1Graph(t *testing.T) {
	told(t, "path 0 0", "0", "path 0 1", "error 1", "graph 0", "error 1", "graph 201", "error 1", "graph 1000000", "error 1", "graph 200", "ok", "path 199 199", "199", "path 0 199", "-", "path 0 200", "error 1",
		"graph 2", "ok", "edge 0 1", "ok", "edge 0 2", "error 20", "edge 1000000 0", "error 20", "edge 2 0", "error 20", "path 0 1", "0 1", "path 1 0", "-", "edge 0 1", "ok", "edge 1 0", "ok", "path 1 0", "1 0",
		"graph 2", "ok", "path 0 1", "-", "graph 201", "error 1", "edge 0 1", "ok", "path 0 1", "0 1", "hubs", "5")
	told(t, "word 0 a", "ok", "word 1 a", "error 20", "word 1000000 a", "error 20", "word 0 A", "error 20", "word 0 ", "error 20", "word 0 abcdefghijkl", "ok", "word 0 abcdefghijklm", "error 20", "word 0 a\xff", "error 20",
		"word 0 a", "ok", "word 0 a", "ok", "word 0 b", "ok", "word 0 c", "ok", "word 0 d", "ok", "word 0 e", "ok", "word 0 f", "error 20",
		"server 1 9 9 9 9", "ok", "near 1 0 0 9 a", "ok", "near 2 0 0 9 f", "ok", "near 3 0 0 9 e d c", "ok", "tick", "1 yes 0 0:0, 2 no 0, 3 yes 0 0:0", "graph 1", "ok", "near 4 0 0 9 a", "ok", "tick", "4 yes 0 0:0",
		"server 1 9 9 9 9", "ok", "near 4 0 0 9 a", "ok", "tick", "4 no 0")
}

// A graph may have 2000 ways, which no script of 6000 bytes can tell; 600 are not refused.
func TestP28_1ManyEdges(t *testing.T) {
	script := strings.Repeat("edge 0 0\n", 600)
	if s, e := desk.Run(script + "path 0 0\nhubs"); s != strings.Repeat("ok\n", 600)+"0\n2\n" || e != api.OK {
		t.Errorf("%d bytes, %d", len(s), e)
	}
}

func TestP28_1Server(t *testing.T) {
	told(t, "server 0 1 1 1 1", "error 1", "server 17 1 1 1 1", "error 1", "server 1 65 1 1 1", "error 1", "server 1 1 1001 1 1", "error 1", "server 1 1 1 401 1", "error 1", "server 1 1 1 1 1001", "error 1",
		"live", "none", "server 16 64 1000 400 1000", "ok", "live", "0 0 0 0 0 0 0 0 0 0 0 0 0 0 0 0", "held", "-", "waits", "-", "tick", "-",
		"dist 5 0 0", "ok", "server 1 1 1 1 0", "error 1", "waits", "5", "server 2 1 1 9 9", "ok", "waits", "-", "live", "0 0")
}

func TestP28_1Queries(t *testing.T) {
	told(t, "graph 4", "ok", "edge 0 1", "ok", "edge 1 2", "ok", "edge 2 3", "ok", "word 1 a", "ok", "word 3 a", "ok", "word 3 b", "ok", "server 3 2 3 20 9", "ok",
		"dist 1 0 200", "error 1", "reach 1 200 0", "error 1", "near 1 0 201 1 a", "error 1", "near 1 0 1 0 a", "error 1", "near 1 0 1 101 a", "error 1", "near 1 0 1 1 A", "error 1", "near 1 0 1 1 ", "error 1",
		"near 1 0 1 1 a a a a a a a a a", "error 1", "dist 1 0 4", "1 error 180", "reach 1 4 0", "1 error 180", "near 1 199 1 1 a", "1 error 180", "cancel 1", "1 error 141",
		"dist 1000000 0 3", "ok", "dist 1000000 0 3", "1000000 error 150", "reach 2 3 0", "ok", "near 3 0 9 9 a", "ok", "near 4 0 9 1 a", "4 error 252", "waits", "1000000 2 3", "held", "-",
		"tick -1", "2 no 0", "waits", "3", "held", "1000000", "near 4 0 9 1 a", "ok", "tick 1000000 -1000000 0", "-", "live", "3 1 1", "held", "1000000 3", "cancel 3", "3 error 253", "live", "2 1 1",
		"reach 5 0 3", "ok", "near 6 0 9 9 a", "ok", "tick", "1000000 yes 3", "cancel 6", "6 error 253", "near 6 0 9 9 b a", "ok", "tick", "-", "tick", "-", "tick", "4 yes 0 1:1", "tick", "5 yes 0", "tick", "-", "tick", "-", "tick", "6 yes 0 3:3", "live", "0 0 0")
}

func TestP28_1Codes(t *testing.T) {
	told(t, "graph 3", "ok", "edge 0 1", "ok", "edge 0 2", "ok", "server 1 2 9 1 9", "ok", "reach 1 0 2", "ok", "tick", "-", "tick", "1 error 250",
		"server 1 2 9 9 1", "ok", "reach 1 0 2", "ok", "reach 2 2 2", "ok", "tick 1", "1 error 251, 2 yes 0", "live", "0")
}

// script is lines, by numbers, each of them of a kind that may be told.
func script(r *sample.Row) []string {
	lines := []string{"graph 6", "edge 0 1", "edge 1 2", "edge 2 3", "edge 3 1", "word 2 a", "word 4 b", "server 2 2 3 9 7"}
	n := func(below int) string { return strconv.Itoa(r.Below(below)) }
	for range 60 {
		lines = append(lines, []string{
			"tick", "tick", "tick " + n(9) + " -" + strconv.Itoa(1+r.Below(9)), "dist " + n(5) + " " + n(6) + " " + n(7), "reach " + n(5) + " " + n(6) + " " + n(6), "near " + n(5) + " " + n(6) + " " + n(4) + " 2 a",
			"cancel " + n(5), "live", "held", "waits", "edge " + n(6) + " " + n(7), "word " + n(7) + " b", "path " + n(6) + " " + n(6), "hubs", "server 1 2 2 5 " + n(5), "odd " + n(2), "dist 1 1 5",
		}[r.Below(17)])
	}
	return lines
}

func TestP28_2WhatFollows(t *testing.T) {
	for seed := range 40 {
		lines := script(sample.New(seed))
		all, _ := desk.Run(strings.Join(lines, "\n"))
		for n := range lines {
			if part, _ := desk.Run(strings.Join(lines[:n], "\n")); !strings.HasPrefix(all, part) || strings.Count(part, "\n") != n {
				t.Fatalf("%d: the first %d lines tell %q", seed, n, part)
			}
		}
		calm := make([]string, len(lines))
		for i, line := range lines {
			calm[i] = line
			if strings.HasPrefix(line, "tick") {
				calm[i] = "tick"
			}
		}
		if s, _ := desk.Run(strings.Join(calm, "\n")); s != all {
			t.Errorf("%d: picks play a part: %q, not %q", seed, s, all)
		}
	}
}
