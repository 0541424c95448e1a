package seek_test

import (
	"hash/crc32"
	"math"
	"slices"
	"strings"
	"testing"

	"flipbook/api"
	"flipbook/log"
	"flipbook/seek"
	"flipbook/state"
	"flipbook/term"
)

// dice are numbers that look like chance, the same ones each time.
type dice uint64

func (d *dice) upTo(n int) int {
	*d = *d*6364136223846793005 + 1442695040888963407
	return int(uint64(*d) >> 33 % uint64(n))
}

func pick[T any](d *dice, l ...T) T { return l[d.upTo(len(l))] }

// number: one's bytes, by layer 1's words.
func number(n int) string {
	if n < 128 {
		return string([]byte{byte(n)})
	}
	return string([]byte{byte(n&127 | 128)}) + number(n>>7)
}

// four: a number in four bytes, the lowest first.
func four(n int) string { return string([]byte{byte(n), byte(n >> 8), byte(n >> 16), byte(n >> 24)}) }

// frame: one's bytes, by layer 2's words.
func frame(s string) string {
	s = number(len(s)) + s
	return s + four(int(crc32.ChecksumIEEE([]byte(s))))
}

// eventBytes: by layer 12's words.
func eventBytes(from int, e api.Event) string {
	s := number(e.Kind) + number(e.Time-from)
	if e.Kind == 2 {
		return s + number(e.W) + number(e.H)
	}
	return s + number(len(e.Data)) + e.Data
}

// terminal: the bytes of that behind events on that of others.
func terminal(start string, l []api.Event) string {
	return model{start: start, events: l}.states()[len(l)]
}

// model is a recording: the key with After i is there if i is one of keys.
type model struct {
	start  string
	events []api.Event
	keys   []int
}

// last: the time of the last one of the first n events; 0.
func (m model) last(n int) int {
	if n == 0 {
		return 0
	}
	return m.events[n-1].Time
}

// A part is a frame of a model: of a key or an event, of what After or number; -1: of the beginning.
type part struct {
	key   bool
	n     int
	frame string
}

// parts: by layer 13's words, without an index.
func (m model) parts() []part {
	l := []part{{n: -1, frame: frame("S" + m.start)}}
	states := m.states()
	for i := 0; i <= len(m.events); i++ {
		if slices.Contains(m.keys, i) {
			l = append(l, part{true, i, frame("K" + number(i) + states[i])})
		}
		if i < len(m.events) {
			l = append(l, part{false, i, frame("E" + eventBytes(m.last(i), m.events[i]))})
		}
	}
	return l
}

// bytes: without an index.
func (m model) bytes() string {
	var s strings.Builder
	for _, p := range m.parts() {
		s.WriteString(p.frame)
	}
	return s.String()
}

// An entry is what an index has of a key.
type entry struct{ after, time, ahead int }

func (m model) entries() []entry {
	var l []entry
	ahead := 0
	for _, p := range m.parts() {
		if p.key {
			l = append(l, entry{p.n, m.last(p.n), ahead})
		}
		ahead += len(p.frame)
	}
	return l
}

func index(l []entry) string {
	s := "I" + number(len(l))
	for _, x := range l {
		s += number(x.after) + number(x.time) + number(x.ahead)
	}
	return frame(s)
}

func foot(ahead int) string { return frame("F" + four(ahead)) }

// indexed: with an index.
func (m model) indexed() string {
	s := m.bytes()
	return s + index(m.entries()) + foot(len(s))
}

// rec: the model as a recording.
func (m model) rec() *log.Rec {
	r := &log.Rec{Start: []byte(m.start), Events: slices.Clone(m.events)}
	states := m.states()
	for _, i := range m.keys {
		r.Keys = append(r.Keys, log.Key{After: i, State: []byte(states[i])})
	}
	return r
}

// until: how many events are no later than a time.
func (m model) until(at int) int {
	n := 0
	for _, e := range m.events {
		if e.Time <= at {
			n++
		}
	}
	return n
}

// at: what all events up to a time lead to from the beginning on.
func (m model) at(at int) string { return terminal(m.start, m.events[:m.until(at)]) }

// states: the terminals behind no event, one, and so on up to all of them, by layer 13's words.
func (m model) states() []string {
	t, e := state.Decode([]byte(m.start))
	if e != api.OK {
		panic("no terminal")
	}
	l := []string{m.start}
	for _, e := range m.events {
		if e.Kind == 0 {
			t.Write(e.Data)
		} else if e.Kind == 2 {
			t.Resize(e.W, e.H)
		}
		l = append(l, string(state.Encode(t)))
	}
	return l
}

// times: ahead of all, at each event, between two, behind the last one, at both ends.
func (m model) times() []int {
	l := []int{math.MinInt, -api.MaxTime, -1, 0, 1, api.MaxTime - 1, api.MaxTime, math.MaxInt}
	for i, e := range m.events {
		l = append(l, e.Time-1, e.Time, e.Time+1, (m.last(i)+e.Time)/2)
	}
	slices.Sort(l)
	return slices.Compact(l)
}

// expectTerm: it's the one of these bytes.
func expectTerm(t *testing.T, what string, at int, x *term.Term, want string) {
	t.Helper()
	if x == nil {
		t.Fatalf("%s, %d: none", what, at)
	}
	if string(state.Encode(x)) != want {
		y, _ := state.Decode([]byte(want))
		t.Fatalf("%s, %d: %v, want %v", what, at, x, y)
	}
}

// expectModel: Fold, At and Jump are as the chapter says, at all times and of all numbers of events.
func expectModel(t *testing.T, what string, m model) {
	t.Helper()
	r, b := m.rec(), []byte(m.indexed())
	if string(r.Encode(true)) != string(b) {
		t.Fatalf("%s: the bytes are others: % X, want % X", what, r.Encode(true), b)
	}
	each := m.states()
	for i, want := range each {
		expectTerm(t, what+": fold", i, seek.Fold(r, i), want)
	}
	for _, at := range m.times() {
		want := each[m.until(at)]
		expectTerm(t, what+": at", at, seek.At(r, at), want)
		x, e := seek.Jump(b, at)
		if e != api.OK {
			t.Fatalf("%s: jump, %d: %d", what, at, int(e))
		}
		expectTerm(t, what+": jump", at, x, want)
	}
	if string(b) != m.indexed() || !sameRec(r, m.rec()) {
		t.Fatalf("%s: the recording became another one", what)
	}
}

func sameRec(a, b *log.Rec) bool { return string(a.Encode(false)) == string(b.Encode(false)) }

// chanceData: what a program writes, parted anywhere.
func chanceData(d *dice) string {
	s := ""
	for range d.upTo(5) {
		s += pick(d, "a", "bc", "\n", "\r", "\t", "\x1b[31m", "\x1b[2J", "\x1b[6n", "\x1b[?1049h", "\x1b[?1049l", "\x1b[2;3H", "中", "\xE4\xB8", "\x1b[", "5", "\x1b]0;title", "\x07", "\x1bM", "\x1b(0q", "\xFF", "\x00", "\x1bH", "\x1b[2;2r", "\x1b7", "\x1b8", "\x1b[4h", "\x1b[?6h", "\x1b[?7l")
	}
	return s
}

// chanceEvent: one no earlier than a time.
func chanceEvent(d *dice, from int) api.Event {
	e := api.Event{Time: min(1<<62-1, from+pick(d, 0, 0, 0, 1, 5, 127, 128, 1<<30)), Kind: pick(d, api.Out, api.Out, api.Out, api.In, api.Size, api.Mark)}
	if e.Kind == api.Size {
		e.W, e.H = pick(d, 1, 2, 4, 9, 60, 61, 1000), pick(d, 1, 2, 3, 60, 1000)
		return e
	}
	e.Data = chanceData(d)
	return e
}

// chance: a recording of so many events, with keys anywhere.
func chance(d *dice, n int) model {
	t := term.New(1+d.upTo(6), 1+d.upTo(3))
	for range d.upTo(4) {
		t.Write(chanceData(d))
	}
	m := model{start: string(state.Encode(t))}
	often := 1 + d.upTo(4)
	from := 0
	for i := range n + 1 {
		if d.upTo(often) == 0 {
			m.keys = append(m.keys, i)
		}
		if i < n {
			m.events = append(m.events, chanceEvent(d, from))
			from = m.last(i + 1)
		}
	}
	return m
}

// eighths: keys behind each eighth event alone.
func eighths(n int) []int {
	var l []int
	for i := 8; i <= n; i += 8 {
		l = append(l, i)
	}
	return l
}

// upTo: the numbers from a up to b.
func upTo(a, b int) []int {
	var l []int
	for i := a; i <= b; i++ {
		l = append(l, i)
	}
	return l
}

func blank(w, h int) string { return string(state.Encode(term.New(w, h))) }

// letters: so many events, each with a letter of its own, with so many at one time.
func letters(n, together int) model {
	m := model{start: blank(7, 3)}
	for i := range n {
		m.events = append(m.events, api.Event{Time: 10 + i/together*10, Data: string(rune('a' + i%26))})
	}
	return m
}
