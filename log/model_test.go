package log_test

import (
	"bytes"
	"hash/crc32"
	"slices"
	"testing"

	"flipbook/api"
	"flipbook/log"
	"flipbook/state"
	"flipbook/term"
)

// dice are numbers that look like chance, the same ones each time.
type dice uint64

func (d *dice) upTo(n int) int {
	*d = *d*6364136223846793005 + 1442695040888963407
	return int(uint64(*d) >> 33 % uint64(n))
}

func pick[T any](d *dice, l ...T) T { return l[d.upTo(len(l))] }

// number: one's bytes, by layer 1's words.
func number(n int) string {
	if n < 128 {
		return string([]byte{byte(n)})
	}
	return string([]byte{byte(n&127 | 128)}) + number(n>>7)
}

// leads: the number below 2^62 that bytes begin with, and what is behind it; false: they begin with none.
func leads(s string) (int, string, bool) {
	n := 0
	for i := 0; i < len(s) && i < 9; i++ {
		n |= int(s[i]&127) << (7 * i)
		if s[i] < 128 {
			return n, s[i+1:], n < 1<<62 && number(n) == s[:i+1]
		}
	}
	return 0, "", false
}

// frame: one's bytes, by layer 2's words.
func frame(s string) string {
	s = number(len(s)) + s
	sum := crc32.ChecksumIEEE([]byte(s))
	return s + string([]byte{byte(sum), byte(sum >> 8), byte(sum >> 16), byte(sum >> 24)})
}

// unframe: what is in the frame that bytes begin with, and that frame's length; false: they begin with none.
func unframe(s string) (string, int, bool) {
	length, rest, ok := leads(s)
	if !ok || length > len(rest) {
		return "", 0, false
	}
	whole := frame(rest[:length])
	if len(whole) > len(s) || s[:len(whole)] != whole {
		return "", 0, false
	}
	return rest[:length], len(whole), true
}

// eventBytes: by layer 12's words.
func eventBytes(from int, e api.Event) string {
	s := number(e.Kind) + number(e.Time-from)
	if e.Kind == 2 {
		return s + number(e.W) + number(e.H)
	}
	return s + number(len(e.Data)) + e.Data
}

// may: is an event right, by layer 12's words?
func may(e api.Event) bool {
	timely := e.Time >= 0 && e.Time < 1<<62
	if e.Kind == 2 {
		return timely && e.Data == "" && 1 <= min(e.W, e.H) && max(e.W, e.H) <= 1000
	}
	return timely && (e.Kind == 0 || e.Kind == 1 || e.Kind == 3) && len(e.Data) <= 400 && e.W == 0 && e.H == 0
}

// eventOf: the right event of which just these are the bytes.
func eventOf(s string, from int) (api.Event, bool) {
	kind, rest, one := leads(s)
	later, rest, two := leads(rest)
	first, rest, three := leads(rest)
	e := api.Event{Kind: kind, Time: from + later}
	if kind == 2 {
		e.W = first
		e.H, _, three = leads(rest)
	} else if first <= len(rest) {
		e.Data = rest[:first]
	}
	return e, one && two && three && may(e) && eventBytes(from, e) == s
}

// terminal: the bytes of that behind events on that of others, by the chapter's words.
func terminal(start string, l []api.Event) string {
	t, e := state.Decode([]byte(start))
	if e != api.OK {
		return ""
	}
	for _, e := range l {
		if e.Kind == 0 {
			t.Write(e.Data)
		} else if e.Kind == 2 {
			t.Resize(e.W, e.H)
		}
	}
	return string(state.Encode(t))
}

// model is a recording: the key with After i is there if keys[i] is.
type model struct {
	start  string
	events []api.Event
	keys   []int
}

func (m model) last() int {
	if len(m.events) == 0 {
		return 0
	}
	return m.events[len(m.events)-1].Time
}

// frames: by the chapter's words, without an index.
func (m model) frames() []string {
	l := []string{frame("S" + m.start)}
	from := 0
	for i := 0; i <= len(m.events); i++ {
		if slices.Contains(m.keys, i) {
			l = append(l, frame("K"+number(i)+terminal(m.start, m.events[:i])))
		}
		if i < len(m.events) {
			l = append(l, frame("E"+eventBytes(from, m.events[i])))
			from = m.events[i].Time
		}
	}
	return l
}

func joined(l []string) string {
	s := ""
	for _, x := range l {
		s += x
	}
	return s
}

func (m model) bytes() string { return joined(m.frames()) }

// index: its two frames, by the chapter's words.
func (m model) index() string {
	ahead := 0
	s := ""
	place := 0
	for _, f := range m.frames() {
		if inside, _, _ := unframe(f); inside[0] == 'K' {
			after := m.keys[place]
			s += number(after) + number(model{events: m.events[:after]}.last()) + number(ahead)
			place++
		}
		ahead += len(f)
	}
	foot := "F" + string([]byte{byte(ahead), byte(ahead >> 8), byte(ahead >> 16), byte(ahead >> 24)})
	return frame("I"+number(len(m.keys))+s) + frame(foot)
}

// rec: the model as a recording.
func (m model) rec() *log.Rec {
	r := &log.Rec{Start: []byte(m.start), Events: slices.Clone(m.events)}
	for _, i := range m.keys {
		r.Keys = append(r.Keys, log.Key{After: i, State: []byte(terminal(m.start, m.events[:i]))})
	}
	return r
}

// rescued: what bytes begin with, and how many they are, by the chapter's words; 0: they begin with none.
func rescued(s string) (model, int) {
	first, n, ok := unframe(s)
	if !ok || len(first) == 0 || first[0] != 'S' || terminal(first[1:], nil) != first[1:] || first == "S" {
		return model{}, 0
	}
	m := model{start: first[1:]}
	for {
		inside, more, ok := unframe(s[n:])
		if !ok || inside == "" {
			return m, n
		}
		e, is := eventOf(inside[1:], m.last())
		count := len(m.events)
		switch {
		case inside[0] == 'E' && is:
			m.events = append(m.events, e)
		case inside[0] == 'K' && !slices.Contains(m.keys, count) && inside[1:] == number(count)+terminal(m.start, m.events):
			m.keys = append(m.keys, count)
		default:
			return m, n
		}
		n += more
	}
}

func sameRec(a, b *log.Rec) bool {
	return bytes.Equal(a.Start, b.Start) && slices.Equal(a.Events, b.Events) && slices.EqualFunc(a.Keys, b.Keys, func(a, b log.Key) bool { return a.After == b.After && bytes.Equal(a.State, b.State) })
}

// expectRec: it's just this recording.
func expectRec(t *testing.T, what string, r *log.Rec, m model) {
	t.Helper()
	if !sameRec(r, m.rec()) || r.Last() != m.last() {
		t.Fatalf("%s: %v, last %d; want %v", what, r, r.Last(), m.rec())
	}
}

// expectRead: Rescue and Decode of bytes are what the chapter's words say.
func expectRead(t *testing.T, what, s string) {
	t.Helper()
	m, want := rescued(s)
	b := []byte(s)
	r, n, e := log.Rescue(b)
	d, de := log.Decode(b)
	if string(b) != s {
		t.Fatalf("%s: the bytes became % X", what, b)
	}
	if want == 0 {
		if r != nil || n != 0 || e != api.ErrForm || d != nil || de != api.ErrForm {
			t.Fatalf("%s: rescued %v, %d, %d, decoded %v, %d; want none", what, r, n, int(e), d, int(de))
		}
		return
	}
	if e != api.OK || n != want {
		t.Fatalf("%s: rescued %v, %d, %d; want %v, %d", what, r, n, int(e), m.rec(), want)
	}
	expectRec(t, what, r, m)
	if string(r.Encode(false)) != s[:n] {
		t.Fatalf("%s: what was rescued has other bytes than it was rescued of", what)
	}
	if want != len(s) && s != s[:n]+m.index() {
		if d != nil || de != api.ErrForm {
			t.Fatalf("%s: decoded %v, %d; want none", what, d, int(de))
		}
		return
	}
	if de != api.OK {
		t.Fatalf("%s: decoded %v, %d; want %v", what, d, int(de), m.rec())
	}
	expectRec(t, what, d, m)
}

// chanceData: what a program writes, parted anywhere.
func chanceData(d *dice) string {
	s := ""
	for range d.upTo(5) {
		s += pick(d, "a", "bc", "\n", "\r", "\t", "\x1b[31m", "\x1b[2J", "\x1b[6n", "\x1b[?1049h", "\x1b[?1049l", "\x1b[2;3H", "中", "\xE4\xB8", "\x1b[", "5", "\x1b]0;title", "\x07", "\x1bM", "\x1b(0q", "\xFF", "\x00")
	}
	return s
}

// chanceEvent: one no earlier than a time.
func chanceEvent(d *dice, from int) api.Event {
	e := api.Event{Time: min(1<<62-1, from+pick(d, 0, 0, 0, 1, 5, 127, 128, 1<<30)), Kind: pick(d, api.Out, api.Out, api.Out, api.In, api.Size, api.Mark)}
	if e.Kind == api.Size {
		e.W, e.H = pick(d, 1, 2, 4, 9, 60, 61, 1000), pick(d, 1, 2, 3, 60, 1000)
		return e
	}
	e.Data = chanceData(d)
	return e
}

func chanceEvents(d *dice, from, n int) []api.Event {
	var l []api.Event
	for range n {
		l = append(l, chanceEvent(d, from))
		from = l[len(l)-1].Time
	}
	return l
}

func chanceTerminal(d *dice) *term.Term {
	t := term.New(1+d.upTo(6), 1+d.upTo(3))
	for range d.upTo(4) {
		t.Write(chanceData(d))
	}
	return t
}

// chance: a recording of so many events, with keys anywhere.
func chance(d *dice, n int) model {
	m := model{start: string(state.Encode(chanceTerminal(d))), events: chanceEvents(d, 0, n)}
	often := 1 + d.upTo(4)
	for i := range n + 1 {
		if d.upTo(often) == 0 {
			m.keys = append(m.keys, i)
		}
	}
	return m
}

// eighths: keys behind each eighth event alone.
func eighths(n int) []int {
	var l []int
	for i := 8; i <= n; i += 8 {
		l = append(l, i)
	}
	return l
}
