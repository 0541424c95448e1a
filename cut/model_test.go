package cut_test

import (
	"hash/crc32"
	"math"
	"slices"
	"strings"
	"testing"

	"flipbook/api"
	"flipbook/log"
	"flipbook/seek"
	"flipbook/state"
	"flipbook/term"
)

// dice are numbers that look like chance, the same ones each time.
type dice uint64

func (d *dice) upTo(n int) int {
	*d = *d*6364136223846793005 + 1442695040888963407
	return int(uint64(*d) >> 33 % uint64(n))
}

func pick[T any](d *dice, l ...T) T { return l[d.upTo(len(l))] }

// number: one's bytes, by layer 1's words.
func number(n int) string {
	if n < 128 {
		return string([]byte{byte(n)})
	}
	return string([]byte{byte(n&127 | 128)}) + number(n>>7)
}

// four: a number in four bytes, the lowest first.
func four(n int) string { return string([]byte{byte(n), byte(n >> 8), byte(n >> 16), byte(n >> 24)}) }

// frame: one's bytes, by layer 2's words.
func frame(s string) string {
	s = number(len(s)) + s
	return s + four(int(crc32.ChecksumIEEE([]byte(s))))
}

// eventBytes: by layer 12's words.
func eventBytes(from int, e api.Event) string {
	s := number(e.Kind) + number(e.Time-from)
	if e.Kind == 2 {
		return s + number(e.W) + number(e.H)
	}
	return s + number(len(e.Data)) + e.Data
}

// model is a recording: the key with After i is there if i is one of keys.
type model struct {
	start  string
	events []api.Event
	keys   []int
}

// lastTime: that of the last one of events; 0.
func lastTime(l []api.Event) int {
	if len(l) == 0 {
		return 0
	}
	return l[len(l)-1].Time
}

// bytes: by layer 13's words, without an index, and with one.
func (m model) bytes() (string, string) {
	var s strings.Builder
	s.WriteString(frame("S" + m.start))
	index := "I" + number(len(m.keys))
	states := m.states()
	for i := 0; i <= len(m.events); i++ {
		from := lastTime(m.events[:i])
		if slices.Contains(m.keys, i) {
			index += number(i) + number(from) + number(s.Len())
			s.WriteString(frame("K" + number(i) + states[i]))
		}
		if i < len(m.events) {
			s.WriteString(frame("E" + eventBytes(from, m.events[i])))
		}
	}
	return s.String(), s.String() + frame(index) + frame("F"+four(s.Len()))
}

// rec: the model as a recording.
func (m model) rec() *log.Rec {
	r := &log.Rec{Start: []byte(m.start), Events: slices.Clone(m.events)}
	states := m.states()
	for _, i := range m.keys {
		r.Keys = append(r.Keys, log.Key{After: i, State: []byte(states[i])})
	}
	return r
}

// states: the terminals behind no event, one, and so on up to all of them, by layer 13's words.
func (m model) states() []string {
	t, e := state.Decode([]byte(m.start))
	if e != api.OK {
		panic("no terminal")
	}
	l := []string{m.start}
	for _, e := range m.events {
		if e.Kind == 0 {
			t.Write(e.Data)
		} else if e.Kind == 2 {
			t.Resize(e.W, e.H)
		}
		l = append(l, string(state.Encode(t)))
	}
	return l
}

// until: how many events are no later than a time.
func (m model) until(at int) int {
	n := 0
	for _, e := range m.events {
		if e.Time <= at {
			n++
		}
	}
	return n
}

// at: what all events up to a time lead to from the beginning on.
func (m model) at(at int) string {
	return model{start: m.start, events: m.events[:m.until(at)]}.states()[m.until(at)]
}

// keyed, trimmed, joined: by the chapter's words.
func (m model) keyed(every int) model {
	m.keys = nil
	for i := range m.events {
		if every >= 1 && (i+1)%every == 0 {
			m.keys = append(m.keys, i+1)
		}
	}
	return m
}

func (m model) trimmed(a, b int) model {
	part := model{start: m.at(a)}
	for _, e := range m.events {
		if a < e.Time && e.Time <= b {
			e.Time -= a
			part.events = append(part.events, e)
		}
	}
	return part.keyed(8)
}

func (m model) joined(s model) model {
	both := model{start: m.start, events: slices.Clone(m.events)}
	for _, e := range s.events {
		e.Time += lastTime(m.events)
		both.events = append(both.events, e)
	}
	return both.keyed(8)
}

// times: no one below 0: at each event, between two, behind the last one, at the end.
func (m model) times() []int {
	l := []int{0, 1, api.MaxTime - 1, api.MaxTime, math.MaxInt}
	for i, e := range m.events {
		l = append(l, max(0, e.Time-1), e.Time, e.Time+1, (lastTime(m.events[:i])+e.Time)/2)
	}
	slices.Sort(l)
	return slices.Compact(l)
}

// is: is it this recording?
func (m model) is(r *log.Rec) bool {
	if string(r.Start) != m.start || !slices.Equal(r.Events, m.events) || len(r.Keys) != len(m.keys) {
		return false
	}
	states := m.states()
	for i, k := range r.Keys {
		if k.After != m.keys[i] || string(k.State) != states[k.After] {
			return false
		}
	}
	return true
}

// expectRec: it is this recording.
func expectRec(t *testing.T, what string, r *log.Rec, want model) {
	t.Helper()
	if r == nil {
		t.Fatalf("%s: none", what)
	}
	if !want.is(r) {
		w := want.rec()
		t.Fatalf("%s:\n start %v\n want  %v\n events %v\n want   %v\n keys %v\n want %v", what, r.Start, w.Start, r.Events, w.Events, r.Keys, w.Keys)
	}
}

// expectBytes: its bytes are those of this recording, and it comes back from them.
func expectBytes(t *testing.T, what string, r *log.Rec, want model) {
	t.Helper()
	plain, whole := want.bytes()
	if string(r.Encode(false)) != plain || string(r.Encode(true)) != whole {
		t.Fatalf("%s: other bytes", what)
	}
	for _, s := range []string{plain, whole} {
		back, e := log.Decode([]byte(s))
		if e != api.OK || !want.is(back) {
			t.Fatalf("%s: from bytes comes another one: %d", what, int(e))
		}
	}
}

// expectShown: a terminal has these bytes.
func expectShown(t *testing.T, what string, x *term.Term, want string) {
	t.Helper()
	if x == nil {
		t.Fatalf("%s: none", what)
	}
	if got := string(state.Encode(x)); got != want {
		t.Fatalf("%s: % X, want % X", what, got, want)
	}
}

// expectError: an error, and nil.
func expectError(t *testing.T, what string, r *log.Rec, e, want api.Errno) {
	t.Helper()
	if r != nil || e != want {
		t.Errorf("%s: %v, %d, want none and %d", what, r, int(e), int(want))
	}
}

// screen: the lines of the screen that is shown.
func screen(t *term.Term) string {
	s := ""
	for y := range t.H {
		s += t.Text(y) + "|"
	}
	return s
}

// shown: the screen of a recording at a time.
func shown(r *log.Rec, at int) string { return screen(seek.At(r, at)) }

// chanceData: what a program writes, parted anywhere.
func chanceData(d *dice) string {
	s := ""
	for range d.upTo(5) {
		s += pick(d, "a", "bc", "\n", "\r", "\t", "\x1b[31m", "\x1b[2J", "\x1b[6n", "\x1b[?1049h", "\x1b[?1049l", "\x1b[2;3H", "中", "\xE4\xB8", "\x1b[", "5", "\x1b]0;title", "\x07", "\x1bM", "\x1b(0q", "\xFF", "\x00", "\x1bH", "\x1b[2;2r", "\x1b7", "\x1b8", "\x1b[4h", "\x1b[?6h", "\x1b[?7l")
	}
	return s
}

// chanceEvent: one that is later than a time by one of some numbers.
func chanceEvent(d *dice, from int, steps []int) api.Event {
	e := api.Event{Time: from + pick(d, steps...), Kind: pick(d, api.Out, api.Out, api.Out, api.In, api.Size, api.Mark)}
	if e.Kind == api.Size {
		e.W, e.H = pick(d, 1, 2, 3, 4, 9, 12, 61), pick(d, 1, 2, 3, 4, 5, 1000)
		return e
	}
	e.Data = chanceData(d)
	return e
}

// chance: a recording of so many events, with keys anywhere.
func chance(d *dice, n int, steps ...int) model {
	t := term.New(1+d.upTo(6), 1+d.upTo(3))
	for range d.upTo(4) {
		t.Write(chanceData(d))
	}
	m := model{start: string(state.Encode(t))}
	often := 1 + d.upTo(4)
	for i := range n + 1 {
		if d.upTo(often) == 0 {
			m.keys = append(m.keys, i)
		}
		if i < n {
			m.events = append(m.events, chanceEvent(d, lastTime(m.events), steps))
		}
	}
	return m
}

// upTo: the numbers from a up to b.
func upTo(a, b int) []int {
	var l []int
	for i := a; i <= b; i++ {
		l = append(l, i)
	}
	return l
}

func blank(w, h int) string { return string(state.Encode(term.New(w, h))) }

// written: a blank terminal on which a text is written.
func written(w, h int, s string) string {
	t := term.New(w, h)
	t.Write(s)
	return string(state.Encode(t))
}

// letters: so many events, each with a letter of its own, with so many at one time.
func letters(n, together int) model {
	m := model{start: blank(7, 3)}
	for i := range n {
		m.events = append(m.events, api.Event{Time: 10 + i/together*10, Data: string(rune('a' + i%26))})
	}
	return m
}
