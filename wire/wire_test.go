package wire_test

import (
	"slices"
	"strings"
	"testing"

	"wayside/api"
	"wayside/wire"
)

// edges are numbers at which the number of digits changes, and their neighbours.
func edges() []int {
	l := []int{0, 1, 2, 300, api.MaxNumber - 1, api.MaxNumber}
	for n := 128; n < api.MaxNumber; n *= 128 {
		l = append(l, n-1, n, n+1, 3*n)
	}
	return l
}

func TestP1_1NumbersBytes(t *testing.T) {
	for n, want := range map[int]string{
		0: "\x00", 127: "\x7f", 128: "\x80\x01", 300: "\xac\x02", 16383: "\xff\x7f", 16384: "\x80\x80\x01",
		api.MaxNumber: "\xff\xff\xff\xff\x07",
	} {
		if s, e := wire.Number(n); s != want || e != api.OK {
			t.Errorf("Number(%d) = %q, %d", n, s, e)
		}
	}
	for _, n := range []int{-1, -300, api.MaxNumber + 1, -1 << 63, 1<<63 - 1} {
		if s, e := wire.Number(n); s != "" || e != api.ErrArg {
			t.Errorf("Number(%d) = %q, %d", n, s, e)
		}
	}
}

func TestP1_1TextsAndRows(t *testing.T) {
	if s, e := wire.Text("ab"); s != "\x02ab" || e != api.OK {
		t.Errorf("Text: %q, %d", s, e)
	}
	if s, e := wire.Text(strings.Repeat("\xff", 4000)); len(s) != 4002 || e != api.OK {
		t.Errorf("Text of 4000: %d bytes, %d", len(s), e)
	}
	if s, e := wire.Text(strings.Repeat("x", 4001)); s != "" || e != api.ErrLimit {
		t.Errorf("Text of 4001: %q, %d", s, e)
	}
	if s, e := wire.Numbers([]int{3, 300}); s != "\x02\x03\xac\x02" || e != api.OK {
		t.Errorf("Numbers: %q, %d", s, e)
	}
	if s, e := wire.Numbers(nil); s != "\x00" || e != api.OK {
		t.Errorf("Numbers of none: %q, %d", s, e)
	}
	if s, e := wire.Numbers(make([]int, 4000)); len(s) != 4002 || e != api.OK {
		t.Errorf("Numbers of 4000: %d bytes, %d", len(s), e)
	}
	for _, bad := range []int{-1, api.MaxNumber + 1} {
		if s, e := wire.Numbers([]int{1, bad, 2}); s != "" || e != api.ErrArg {
			t.Errorf("Numbers with %d: %q, %d", bad, s, e)
		}
	}
	long := make([]int, 4001)
	long[0] = -1
	if s, e := wire.Numbers(long); s != "" || e != api.ErrLimit {
		t.Errorf("Numbers of 4001, one wrong: %q, %d", s, e)
	}
}

func TestP1_2NoNumber(t *testing.T) {
	for _, x := range []struct {
		s  string
		at int
	}{
		{"", 0}, {"\x80", 0}, {"\x80\x00", 0}, {"\xff\x80\x00", 0}, {"\xff\xff\xff\xff\x08", 0}, {"\xff\xff\xff\xff\x7f", 0},
		{"\x80\x80\x80\x80\x80\x01", 0}, {"\x80\x80\x80\x80\x80\x80\x80\x80\x80\x80\x80\x01", 0}, {"\x01", 1}, {"\x01", 2},
		{"\x01", -1}, {"\x01", 1<<63 - 1}, {"\x01", -1 << 63},
	} {
		if n, next, ok := wire.ReadNumber(x.s, x.at); n != 0 || next != 0 || ok {
			t.Errorf("ReadNumber(%q, %d) = %d, %d, %v", x.s, x.at, n, next, ok)
		}
		if l, next, ok := wire.ReadNumbers(x.s[:min(1, len(x.s))], x.at); len(l) != 0 || next != 0 || ok {
			t.Errorf("ReadNumbers(%q, %d) = %v, %d, %v", x.s, x.at, l, next, ok)
		}
	}
	if n, next, ok := wire.ReadNumber("\xac\x02\x09", 0); n != 300 || next != 2 || !ok {
		t.Errorf("ReadNumber = %d, %d, %v", n, next, ok)
	}
}

func TestP1_2NoTextNoRow(t *testing.T) {
	for _, s := range []string{"", "\x03ab", "\x80\x00", "\xa1\x1f" + strings.Repeat("x", 4001), "\xff\xff\xff\xff\x07"} {
		for _, at := range []int{0, -1, len(s), len(s) + 1} {
			if u, next, ok := wire.ReadText(s, at); u != "" || next != 0 || ok {
				t.Errorf("ReadText(%.9q, %d) = %q, %d, %v", s, at, u, next, ok)
			}
		}
	}
	for _, s := range []string{"", "\x01", "\x02\x05", "\x01\x80\x00", "\xa1\x1f" + strings.Repeat("\x01", 4001), "\xff\xff\xff\xff\x07"} {
		if l, next, ok := wire.ReadNumbers(s, 0); len(l) != 0 || next != 0 || ok {
			t.Errorf("ReadNumbers(%.9q) = %v, %d, %v", s, l, next, ok)
		}
	}
}

func TestP1_3LaidIsRead(t *testing.T) {
	for _, n := range edges() {
		s, _ := wire.Number(n)
		for _, ahead := range []string{"", "\x80", "xyz"} {
			m, next, ok := wire.ReadNumber(ahead+s+"\x01", len(ahead))
			if m != n || next != len(ahead)+len(s) || !ok {
				t.Errorf("%d behind %q is read as %d, %d, %v", n, ahead, m, next, ok)
			}
		}
	}
	for _, n := range []int{0, 1, 127, 128, 3999, 4000} {
		text := strings.Repeat("\x80", n)
		s, _ := wire.Text(text)
		if u, next, ok := wire.ReadText("ab"+s+text, 2); u != text || next != 2+len(s) || !ok {
			t.Errorf("a text of %d bytes is read as one of %d, %d, %v", n, len(u), next, ok)
		}
		row := slices.Repeat([]int{n}, n)
		s, _ = wire.Numbers(row)
		if l, next, ok := wire.ReadNumbers("ab"+s+s, 2); !slices.Equal(l, row) || next != 2+len(s) || !ok {
			t.Errorf("a row of %d is read as one of %d, %d, %v", n, len(l), next, ok)
		}
	}
}

// Of all short bytes: what is read of them is laid as the same bytes.
func TestP1_3ReadIsLaid(t *testing.T) {
	digits := "\x00\x01\x02\x7f\x80\x81\xff"
	var further func(s string)
	further = func(s string) {
		if n, next, ok := wire.ReadNumber(s, 0); ok {
			if laid, e := wire.Number(n); laid != s[:next] || e != api.OK {
				t.Errorf("%q is read as %d, laid as %q", s, n, laid)
			}
		}
		if l, next, ok := wire.ReadNumbers(s, 0); ok {
			if laid, e := wire.Numbers(l); laid != s[:next] || e != api.OK {
				t.Errorf("%q is read as %v, laid as %q", s, l, laid)
			}
		}
		if u, next, ok := wire.ReadText(s, 0); ok {
			if laid, e := wire.Text(u); laid != s[:next] || e != api.OK {
				t.Errorf("%q is read as %q, laid as %q", s, u, laid)
			}
		}
		for i := 0; i < len(digits) && len(s) < 5; i++ {
			further(s + digits[i:i+1])
		}
	}
	further("")
}

func TestP1_3NoBeginning(t *testing.T) {
	var laid []string
	for _, n := range edges() {
		s, _ := wire.Number(n)
		laid = append(laid, s)
	}
	slices.Sort(laid)
	for i, s := range slices.Compact(laid) {
		if i > 0 && strings.HasPrefix(s, laid[i-1]) {
			t.Errorf("%q is the beginning of %q", laid[i-1], s)
		}
	}
}

func TestR2RowIsNew(t *testing.T) {
	l, _, _ := wire.ReadNumbers("\x02\x05\x06", 0)
	l[0] = 9
	if m, _, _ := wire.ReadNumbers("\x02\x05\x06", 0); !slices.Equal(m, []int{5, 6}) {
		t.Errorf("%v", m)
	}
	row := []int{7, 8}
	if wire.Numbers(row); !slices.Equal(row, []int{7, 8}) {
		t.Errorf("%v", row)
	}
}
