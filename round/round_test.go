package round_test

import (
	"slices"
	"testing"

	"wayside/api"
	"wayside/part"
	"wayside/prog"
	"wayside/round"
	"wayside/sample"
)

const least, greatest = -1 << 63, 1<<63 - 1

func TestP19_1Fresh(t *testing.T) {
	for i, x := range []struct {
		states      []api.State
		mails, want []api.Mail
	}{
		{nil, nil, nil}, {[]api.State{sample.State(0, 0, 1, 1)}, nil, nil},
		{nil, []api.Mail{sample.Mail(1, 0, 2, 9), sample.Mail(0, 1, 3, 4), sample.Mail(1, 0, 2, 7)}, []api.Mail{sample.Mail(0, 1, 3, 4), sample.Mail(1, 0, 2, 7)}},
		{[]api.State{sample.State(0, 0, 1, 5), sample.State(0, 0, 1, 6)}, []api.Mail{sample.Mail(0, 0, 1, 1), sample.Mail(0, 1, 1, 1), sample.Mail(1, 0, 1, 1)}, []api.Mail{sample.Mail(0, 1, 1, 1), sample.Mail(1, 0, 1, 1)}},
		{[]api.State{sample.State(least, 9, greatest, -4)}, []api.Mail{sample.Mail(least, 9, greatest, 0), sample.Mail(greatest, -9, least, -1)}, []api.Mail{sample.Mail(greatest, -9, least, -1)}},
	} {
		if got := round.Fresh(x.states, x.mails); !slices.Equal(got, x.want) {
			t.Errorf("%d: %v", i, got)
		}
	}
}

func TestP19_1Each(t *testing.T) {
	states := []api.State{sample.State(9, 0, 1, 0), sample.State(0, 1, 1, 200), sample.State(0, 0, 0, 1), sample.State(0, 0, 2, 1), sample.State(0, 0, 2, 1)}
	if l, e := round.Each(states, 4); !slices.Equal(l, []int{2, 1, 0, 2}) || e != api.OK {
		t.Errorf("%v, %d", l, e)
	}
	if l, e := round.Each(nil, 16); !slices.Equal(l, make([]int, 16)) || e != api.OK {
		t.Errorf("%v, %d", l, e)
	}
	if l, e := round.Each(states, 1); !slices.Equal(l, []int{5}) || e != api.OK {
		t.Errorf("%v, %d", l, e)
	}
	for _, workers := range []int{0, -1, 17, least, greatest} {
		if l, e := round.Each(states, workers); len(l) != 0 || e != api.ErrArg {
			t.Errorf("%d: %v, %d", workers, l, e)
		}
	}
	for _, x := range wrong() {
		if l, e := round.Each([]api.State{{}, x}, 2); len(l) != 0 || e != api.ErrArg {
			t.Errorf("%v: %v, %d", x, l, e)
		}
	}
}

// wrong are states that may not be.
func wrong() []api.State {
	return []api.State{
		sample.State(-1, 0, 0, 0), sample.State(1001, 0, 0, 0), sample.State(0, -1, 0, 0), sample.State(0, 2, 0, 0), sample.State(0, 0, -1, 0), sample.State(0, 0, 200, 0), sample.State(0, 0, 0, -1),
		sample.State(0, 0, 0, 201), sample.State(least, least, least, least), sample.State(greatest, greatest, greatest, greatest),
	}
}

func TestP19_2Example(t *testing.T) {
	_, r := sample.Rows(sample.Plain(2, 0, 1))
	q := api.Query{Kind: 2, To: 1}
	var states []api.State
	mails := prog.Start(q, 0)
	for i, want := range []struct {
		states []api.State
		mails  []api.Mail
	}{
		{[]api.State{sample.State(0, 0, 0, 0)}, []api.Mail{sample.Mail(0, 0, 1, 1)}}, {[]api.State{sample.State(0, 0, 0, 0), sample.State(0, 0, 1, 1)}, nil}, {[]api.State{sample.State(0, 0, 0, 0), sample.State(0, 0, 1, 1)}, nil},
	} {
		s, m, e := round.Step(q, r, states, mails, 2, nil)
		if !slices.Equal(s, want.states) || !slices.Equal(m, want.mails) || e != api.OK {
			t.Errorf("%d: %v, %v, %d", i, s, m, e)
		}
		states, mails = s, m
	}
}

// plain works P19.2 out without workers.
func plain(q api.Query, r api.Rows, states []api.State, mails []api.Mail) ([]api.State, []api.Mail) {
	states = slices.Clone(states)
	var sent []api.Mail
	for _, m := range round.Fresh(states, mails) {
		x := api.State{Key: m.Key, D: m.D}
		states = append(states, x)
		l, _ := prog.Next(q, r, x)
		sent = append(sent, l...)
	}
	slices.SortFunc(states, func(a, b api.State) int {
		return slices.Compare([]int{a.Key.Slot, a.Key.Dir, a.Key.V}, []int{b.Key.Slot, b.Key.Dir, b.Key.V})
	})
	return states, round.Fresh(states, sent)
}

func TestP19_2And3OfSamples(t *testing.T) {
	for seed := range 30 {
		g, r := sample.Rows(sample.Graph(seed, 2+seed, 3*seed))
		row := sample.New(seed)
		q := api.Query{Kind: 1 + seed%3, From: row.Below(g.N), To: row.Below(g.N), Words: []string{"a"}, Radius: row.Below(4), Most: 3}
		states := []api.State{sample.State(5, 1, 0, 7), sample.State(9, 0, 1, 2)}
		mails := append(prog.Start(q, 3), sample.Mail(7, 1, 1, 0))
		for range 8 {
			want, sent := plain(q, r, states, mails)
			fresh := len(round.Fresh(states, mails))
			for workers := 1; workers <= 16; workers += 1 + seed%4 {
				s, m, e := round.Step(q, r, states, mails, workers, row.Picks(row.Below(30)))
				if !slices.Equal(s, want) || !slices.Equal(m, sent) || e != api.OK {
					t.Fatalf("%d, %d workers: %v, %v, %d, not %v, %v", seed, workers, s, m, e, want, sent)
				}
				if len(s) != len(states)+fresh || len(round.Fresh(s, m)) != len(m) {
					t.Fatalf("%d: %d states and %d fresh messages are %d", seed, len(states), fresh, len(s))
				}
				if !slices.Contains(s, sample.State(5, 1, 0, 7)) || !slices.Contains(s, sample.State(9, 0, 1, 2)) {
					t.Errorf("%d: slots without a message: %v", seed, s)
				}
			}
			states, mails = want, sent
		}
	}
}

func TestP19_2LeastMessageIsTaken(t *testing.T) {
	_, r := sample.Rows(sample.Plain(3, 0, 2, 1, 2))
	s, m, e := round.Step(api.Query{Kind: 2}, r, nil, []api.Mail{sample.Mail(0, 0, 1, 9), sample.Mail(0, 0, 0, 4), sample.Mail(0, 0, 1, 6)}, 3, []int{2, -1})
	if !slices.Equal(s, []api.State{sample.State(0, 0, 0, 4), sample.State(0, 0, 1, 6)}) || !slices.Equal(m, []api.Mail{sample.Mail(0, 0, 2, 5)}) || e != api.OK {
		t.Errorf("%v, %v, %d", s, m, e)
	}
	// A state of the D 200 sends messages of 201, which may be told, but not taken.
	s, m, e = round.Step(api.Query{Kind: 2}, r, nil, []api.Mail{sample.Mail(0, 0, 0, 200)}, 1, nil)
	if len(s) != 1 || !slices.Equal(m, []api.Mail{sample.Mail(0, 0, 2, 201)}) || e != api.OK {
		t.Errorf("%v, %v, %d", s, m, e)
	}
	if _, _, e := round.Step(api.Query{Kind: 2}, r, s, m, 1, nil); e != api.ErrArg {
		t.Errorf("a message of 201: %d", e)
	}
}

func TestP19_2Wrong(t *testing.T) {
	_, r := sample.Rows(sample.Plain(3, 0, 1))
	q := api.Query{Kind: 1}
	a, b := sample.State(0, 0, 0, 1), sample.State(0, 0, 1, 1)
	for i, x := range []struct {
		r       api.Rows
		states  []api.State
		mails   []api.Mail
		workers int
		want    api.Errno
	}{
		{api.Rows{}, nil, nil, 1, api.ErrRows}, {api.Rows{}, []api.State{b, a}, []api.Mail{sample.Mail(-1, 0, 0, 0)}, 0, api.ErrRows},
		{r, []api.State{b, a}, nil, 1, api.ErrArg}, {r, []api.State{a, a}, nil, 1, api.ErrArg}, {r, []api.State{a, b, sample.State(0, 0, 3, 1)}, nil, 1, api.ErrArg},
		{r, nil, []api.Mail{sample.Mail(0, 0, 3, 1)}, 1, api.ErrArg}, {r, nil, []api.Mail{sample.Mail(0, 0, 0, 1), sample.Mail(0, 1, 199, 200), sample.Mail(0, 1, 2, 1)}, 16, api.ErrArg}, {r, []api.State{a}, []api.Mail{sample.Mail(0, 0, 0, 201)}, 1, api.ErrArg},
		{r, nil, nil, 0, api.ErrArg}, {r, nil, nil, 17, api.ErrArg}, {r, nil, nil, -1, api.ErrArg}, {r, nil, nil, least, api.ErrArg}, {r, nil, nil, greatest, api.ErrArg},
	} {
		if s, m, e := round.Step(q, x.r, x.states, x.mails, x.workers, []int{1}); len(s)+len(m) != 0 || e != x.want {
			t.Errorf("%d: %v, %v, %d", i, s, m, e)
		}
	}
	for _, x := range wrong() {
		_, _, e := round.Step(q, r, []api.State{x}, nil, 1, nil)
		if _, _, f := round.Step(q, r, nil, []api.Mail{{}, api.Mail(x)}, 1, nil); e != api.ErrArg || f != api.ErrArg {
			t.Errorf("%v: %d, %d", x, e, f)
		}
	}
}

// All messages that a worker gets are of places whose home it is: with the states of each worker told by Each.
func TestP19_1EachOfSteps(t *testing.T) {
	g, r := sample.Rows(sample.Graph(4, 30, 90))
	q := api.Query{Kind: 1, From: 0, To: g.N - 1}
	states, mails := []api.State(nil), prog.Start(q, 0)
	for range 6 {
		states, mails, _ = round.Step(q, r, states, mails, 5, []int{3, 1})
		many := make([]int, 5)
		for _, x := range states {
			home, _ := part.Home(x.Key.V, 5)
			many[home]++
		}
		if l, e := round.Each(states, 5); !slices.Equal(l, many) || e != api.OK {
			t.Errorf("%v, %d, not %v", l, e, many)
		}
	}
}

func TestR2NothingShared(t *testing.T) {
	_, r := sample.Rows(sample.Plain(3, 0, 1, 1, 2))
	room := []api.State{sample.State(0, 0, 2, 1), sample.State(1, 0, 0, 5), sample.State(1, 0, 1, 5)}
	states := room[:1]
	mails := []api.Mail{sample.Mail(0, 0, 1, 4), sample.Mail(0, 0, 0, 4)}
	s, m, _ := round.Step(api.Query{Kind: 2}, r, states, mails, 2, []int{1})
	s[0].D = 99
	_ = append(m, sample.Mail(9, 9, 9, 9))
	f := round.Fresh(states, mails)
	f[0].D = 99
	if room[0] != sample.State(0, 0, 2, 1) || room[1] != sample.State(1, 0, 0, 5) || mails[0] != sample.Mail(0, 0, 1, 4) || mails[1] != sample.Mail(0, 0, 0, 4) {
		t.Errorf("%v, %v", room, mails)
	}
}
