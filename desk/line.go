package desk

import (
	"strconv"
	"strings"

	"wayside/api"
	"wayside/frame"
)

// What is told of a line that has nothing else to tell.
const (
	done = "ok"
	dash = "-"
)

// refusal is thrown by a line that is not done: what is told of it.
type refusal string

const (
	what refusal = "what"
	none refusal = "none"
)

func failed(e api.Errno) refusal { return refusal("error " + strconv.Itoa(int(e))) }

// need throws a refusal, if what is needed is not so.
func need(ok bool, r refusal) {
	if !ok {
		panic(r)
	}
}

// check throws the refusal of an error.
func check(e api.Errno) { need(e == api.OK, failed(e)) }

// maxNumber is the greatest number that may be said.
const maxNumber = 1000000

// The kinds of a line's words.
const (
	number = 'n'
	pick   = 'p'
	text   = 't'
)

// command is how a line is done: words of the kinds of form, one each, and as many as there are of the kind of rest; of served, with a server.
type command struct {
	do     func(*desk, said) string
	form   string
	rest   string
	served bool
}

// said are a line's numbers, and its other words.
type said struct {
	numbers []int
	texts   []string
}

func commands() map[string]command {
	return map[string]command{
		"graph":  {do: (*desk).newGraph, form: "n"},
		"edge":   {do: (*desk).edge, form: "nn"},
		"word":   {do: (*desk).word, form: "nt"},
		"path":   {do: (*desk).path, form: "nn"},
		"hubs":   {do: (*desk).hubs},
		"server": {do: (*desk).newServer, form: "nnnnn"},
		"dist":   {do: (*desk).dist, form: "nnn", served: true},
		"reach":  {do: (*desk).reach, form: "nnn", served: true},
		"near":   {do: (*desk).near, form: "nnnnt", rest: "t", served: true},
		"cancel": {do: (*desk).cancel, form: "n", served: true},
		"tick":   {do: (*desk).tick, rest: "p", served: true},
		"live":   {do: (*desk).live, served: true},
		"held":   {do: (*desk).held, served: true},
		"waits":  {do: (*desk).waits, served: true},
	}
}

// read reads a line's words behind the first one; it throws, if they are not so.
func (c command) read(words []string) said {
	need(len(words) >= len(c.form), what)
	form := c.form + strings.Repeat(c.rest, len(words)-len(c.form))
	need(len(words) == len(form), what)
	var s said
	for i, word := range words {
		if form[i] == text {
			s.texts = append(s.texts, word)
			continue
		}
		n, e := strconv.Atoi(word)
		// What is told as it was said has no sign but of a pick below 0, and no 0 ahead.
		need(e == nil && strconv.Itoa(n) == word && n <= maxNumber && (n >= 0 || form[i] == pick && n >= -maxNumber), what)
		s.numbers = append(s.numbers, n)
	}
	return s
}

// numbers tells numbers.
func numbers(l []int) string {
	var told []string
	for _, n := range l {
		told = append(told, strconv.Itoa(n))
	}
	return joined(told, " ")
}

// replies tells replies.
func replies(l []string) string {
	var told []string
	for _, f := range l {
		told = append(told, reply(f))
	}
	return joined(told, ", ")
}

func joined(l []string, between string) string {
	if len(l) == 0 {
		return dash
	}
	return strings.Join(l, between)
}

// reply tells a reply of a server.
func reply(f string) string {
	x, e := frame.GetReply(f)
	check(e)
	id := strconv.Itoa(x.Id)
	if x.Code != api.OK {
		return id + " " + string(failed(x.Code))
	}
	told := id + " no "
	if x.Answer.Found {
		told = id + " yes "
	}
	told += strconv.Itoa(x.Answer.D)
	for _, h := range x.Answer.Hits {
		told += " " + strconv.Itoa(h.V) + ":" + strconv.Itoa(h.D)
	}
	return told
}
