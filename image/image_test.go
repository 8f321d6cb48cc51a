package image_test

import (
	"reflect"
	"slices"
	"strings"
	"testing"

	"wayside/api"
	"wayside/graph"
	"wayside/image"
	"wayside/sample"
)

// graphs are normal ones, from the least to those that have as much as may be.
func graphs() []api.Graph {
	words := []string{"a", "aa", "ab", "abcdefghijkl", "b", "c", "d", "z"}
	most := api.Graph{N: 200, Words: slices.Repeat([][]string{words}, 200)}
	for v := range 200 {
		for w := range 10 {
			most.Edges = append(most.Edges, api.Edge{From: v, To: w * 22})
		}
	}
	l := []api.Graph{sample.Plain(1), sample.Plain(1, 0, 0), sample.Plain(200), sample.Plain(130, 129, 127, 129, 128), most}
	for seed := range 30 {
		g, _ := graph.Normal(sample.Graph(seed, 1+seed*5, seed*7))
		l = append(l, g)
	}
	return l
}

func TestP3_1Print(t *testing.T) {
	g := sample.Plain(2, 0, 1)
	g.Words[1] = []string{"ab"}
	if s, e := image.Print(g); s != "wg\x02\x01\x01\x00\x00\x01\x02ab" || e != api.OK {
		t.Errorf("%q, %d", s, e)
	}
	if s, e := image.Print(sample.Plain(1)); s != "wg\x01\x00\x00" || e != api.OK {
		t.Errorf("%q, %d", s, e)
	}
	if s, e := image.Print(sample.Plain(130, 129, 128)); !strings.HasPrefix(s, "wg\x82\x01\x00") || !strings.HasSuffix(s, "\x00\x01\x80\x01\x00") || e != api.OK {
		t.Errorf("%q, %d", s, e)
	}
	twice := sample.Plain(2)
	twice.Words[0] = []string{"a", "a"}
	for i, bad := range []api.Graph{{}, {N: 1}, sample.Plain(2, 1, 0, 0, 1), sample.Plain(2, 0, 1, 0, 1), sample.Plain(2, 0, 2), twice, sample.Plain(201)} {
		if s, e := image.Print(bad); s != "" || e != api.ErrGraph {
			t.Errorf("%d: %q, %d", i, s, e)
		}
	}
}

func TestP3_1NoImage(t *testing.T) {
	for _, s := range []string{
		"", "w", "wg", "wh\x01\x00\x00", "WG\x01\x00\x00", "wg\x00", "wg\x01", "wg\x01\x00", "wg\x01\x01\x01\x00", "wg\x01\x00\x00\x00",
		"wg\x02\x00\x00", "wg\x81\x00\x00\x00", "wg\x01\x80\x00\x00", "wg\x01\x02\x00\x00\x00", "wg\x02\x02\x01\x00\x00\x00\x00",
		"wg\x01\x00\x01\x00", "wg\x01\x00\x01\x01A", "wg\x01\x00\x01\x02a", "wg\x01\x00\x02\x01a\x01a", "wg\x01\x00\x02\x01b\x01a",
		"wg\x01\x00\x01\x0dabcdefghijklm", "wg\x01\x00\x09\x01a\x01b\x01c\x01d\x01e\x01f\x01g\x01h\x01i", "wg\xff\xff\xff\xff\x07",
		"wg\x01\x00\xff\xff\xff\xff\x07", "wg\xc9\x01" + strings.Repeat("\x00", 402), " wg\x01\x00\x00",
	} {
		if g, e := image.Parse(s); e != api.ErrImage || !reflect.DeepEqual(g, api.Graph{}) {
			t.Errorf("%q: %v, %d", s, g, e)
		}
	}
	// 200 rows of 10 are 2000 ways, as many as may be: 200 of 11 are too many.
	many := "wg\xc8\x01" + strings.Repeat("\x0b\x00\x01\x02\x03\x04\x05\x06\x07\x08\x09\x0a\x00", 200)
	if _, e := image.Parse(many); e != api.ErrImage {
		t.Errorf("2200 ways: %d", e)
	}
}

func TestP3_2PrintedIsParsed(t *testing.T) {
	for i, g := range graphs() {
		s, e := image.Print(g)
		if e != api.OK {
			t.Fatalf("%d: %d", i, e)
		}
		if p, e := image.Parse(s); e != api.OK || !sample.Same(p, g) {
			t.Errorf("%d: %v, %d", i, p, e)
		}
	}
}

// Of images, and of images with one byte that is another one: what is parsed is printed as it was.
func TestP3_2ParsedIsPrinted(t *testing.T) {
	parsed := 0
	for _, g := range graphs()[5:15] {
		s, _ := image.Print(g)
		for at := range len(s) {
			for _, b := range []byte{0, 1, 2, 'a', 'b', 128, 255} {
				other := s[:at] + string([]byte{b}) + s[at+1:]
				p, e := image.Parse(other)
				if e != api.OK {
					continue
				}
				parsed++
				if again, e := image.Print(p); again != other || e != api.OK {
					t.Errorf("%q is printed as %q, %d", other, again, e)
				}
			}
		}
	}
	if parsed < 50 {
		t.Errorf("%d were parsed", parsed)
	}
}

func TestP3_2NoBeginning(t *testing.T) {
	for i, g := range graphs()[:20] {
		s, _ := image.Print(g)
		for n := range len(s) {
			if _, e := image.Parse(s[:n]); e != api.ErrImage {
				t.Errorf("%d: its first %d bytes are an image", i, n)
			}
		}
		if _, e := image.Parse(s + "\x00"); e != api.ErrImage {
			t.Errorf("%d: a byte more", i)
		}
	}
}

func TestR2ParsedIsNew(t *testing.T) {
	s := "wg\x02\x01\x01\x01\x01a\x00\x01\x01b"
	g, _ := image.Parse(s)
	g.Words[0] = append(g.Words[0], "z")
	g.Words[0][0] = "x"
	if h, e := image.Parse(s); e != api.OK || h.Words[0][0] != "a" || h.Words[1][0] != "b" {
		t.Errorf("%v, %d", h, e)
	}
}
