package hunt_test

import (
	"math"
	"slices"
	"testing"

	"flipbook/api"
	"flipbook/hunt"
	"flipbook/log"
	"flipbook/seek"
	"flipbook/state"
	"flipbook/term"
)

// dice are numbers that look like chance, the same ones each time.
type dice uint64

func (d *dice) upTo(n int) int {
	*d = *d*6364136223846793005 + 1442695040888963407
	return int(uint64(*d) >> 33 % uint64(n))
}

func pick[T any](d *dice, l ...T) T { return l[d.upTo(len(l))] }

// lineText: what a line's Text is, by layer 9's words.
func lineText(l []api.Cell) string {
	var runes []rune
	for _, c := range l {
		if c.Rune != 0 {
			runes = append(runes, c.Rune)
		}
	}
	for len(runes) > 0 && runes[len(runes)-1] == 32 {
		runes = runes[:len(runes)-1]
	}
	return string(runes)
}

// stands: does a text stand within another one, byte by byte?
func stands(text, within string) bool {
	for i := 0; i+len(text) <= len(within); i++ {
		if within[i:i+len(text)] == text {
			return true
		}
	}
	return false
}

// shows: by the chapter's words.
func shows(t *term.Term, text string) bool {
	any := false
	for _, l := range t.Grid.Lines {
		any = any || stands(text, lineText(l))
	}
	return any && text != ""
}

// model is a recording: the key with After i is there if i is one of keys.
type model struct {
	start  string
	events []api.Event
	keys   []int
}

// rec: the model as a recording.
func (m model) rec() *log.Rec {
	r := &log.Rec{Start: []byte(m.start), Events: slices.Clone(m.events)}
	for _, i := range m.keys {
		r.Keys = append(r.Keys, log.Key{After: i, State: []byte(terminal(m.start, m.events[:i]))})
	}
	return r
}

// terminal: the bytes of that behind events on that of others, by layer 13's words.
func terminal(start string, l []api.Event) string {
	t, e := state.Decode([]byte(start))
	if e != api.OK {
		panic("no terminal")
	}
	for _, e := range l {
		if e.Kind == 0 {
			t.Write(e.Data)
		} else if e.Kind == 2 {
			t.Resize(e.W, e.H)
		}
	}
	return string(state.Encode(t))
}

// times: ahead of all, at each event, one less and one more, behind the last one, at both ends.
func (m model) times() []int {
	l := []int{math.MinInt, -api.MaxTime, -2, -1, 0, 1, api.MaxTime - 1, api.MaxTime, api.MaxTime + 1, math.MaxInt}
	for _, e := range m.events {
		l = append(l, e.Time-1, e.Time, e.Time+1)
	}
	slices.Sort(l)
	return slices.Compact(l)
}

// A moment is a time, and whether a text is shown then.
type moment struct {
	at    int
	shown bool
}

// moments: At (14), of the recording without its keys, at each of times.
func (m model) moments(texts ...string) map[string][]moment {
	r := m.rec()
	r.Keys = nil
	all := map[string][]moment{}
	for _, at := range m.times() {
		x := seek.At(r, at)
		for _, text := range texts {
			all[text] = append(all[text], moment{at, shows(x, text)})
		}
	}
	return all
}

// first: the earliest one from a time on.
func first(l []moment, from int) (int, bool) {
	for _, x := range l {
		if x.at >= from && x.shown {
			return x.at, true
		}
	}
	return 0, false
}

// spans: a time at which it is shown is so up to the next one; those that touch are one.
func spans(l []moment) []hunt.Span {
	var out []hunt.Span
	for i, x := range l {
		if x.at < 0 || x.at >= api.MaxTime || !x.shown {
			continue
		}
		s := hunt.Span{From: x.at, To: l[i+1].at}
		if n := len(out); n > 0 && out[n-1].To == s.From {
			out[n-1].To = s.To
		} else {
			out = append(out, s)
		}
	}
	return out
}

// expectRight: they rise, none is empty, no two touch, all are within 0 and MaxTime.
func expectRight(t *testing.T, what string, l []hunt.Span) {
	t.Helper()
	for i, s := range l {
		if s.From < 0 || s.To <= s.From || s.To > api.MaxTime || i > 0 && s.From <= l[i-1].To {
			t.Fatalf("%s: %v", what, l)
		}
	}
}

// told: what spans tell of the earliest time from one, which is not below 0, on, up to MaxTime.
func told(l []hunt.Span, from int) (int, bool) {
	for _, s := range l {
		if from < s.To {
			return max(from, s.From), true
		}
	}
	return 0, false
}

// expectModel: First and Spans are as the chapter says, and First is what Spans tell.
func expectModel(t *testing.T, what string, m model, texts ...string) {
	t.Helper()
	r := m.rec()
	bytes := string(r.Encode(true))
	for text, l := range m.moments(texts...) {
		got := hunt.Spans(r, text)
		if !slices.Equal(got, spans(l)) {
			t.Fatalf("%s: %q: %v, want %v, of %v", what, text, got, spans(l), m.events)
		}
		expectRight(t, what, got)
		for _, x := range l {
			at, ok := hunt.First(r, text, x.at)
			if want, is := first(l, x.at); at != want || ok != is {
				t.Fatalf("%s: %q from %d: %d %v, want %d %v, of %v", what, text, x.at, at, ok, want, is, m.events)
			}
			if x.at < 0 || x.at >= api.MaxTime {
				continue
			}
			if want, is := told(got, x.at); at != want || ok != is {
				t.Fatalf("%s: %q from %d: %d %v, but the spans are %v", what, text, x.at, at, ok, got)
			}
		}
	}
	if string(r.Encode(true)) != bytes {
		t.Fatalf("%s: the recording became another one", what)
	}
}

// chanceData: what a program writes, parted anywhere.
func chanceData(d *dice) string {
	s := ""
	for range d.upTo(4) {
		s += pick(d, "a", "b", "ab", "ba", " ", "\r\n", "\r", "\x1b[H", "\x1b[2J", "\x1b[K", "\x1b[?1049h", "\x1b[?1049l", "\x1b[2;3H", "中", "é", "\xE4\xB8", "\xAD", "\x1b[", "2J", "\x1b]0;ab", "\x07", "\x1bM", "\x1b(0", "\x1b(B", "\xFF", "\x1b7", "\x1b8", "\x1b[4h", "\x1b[P", "\x1bc")
	}
	return s
}

// chanceEvent: one that is later than a time by one of some numbers.
func chanceEvent(d *dice, from int, steps []int) api.Event {
	e := api.Event{Time: min(api.MaxTime-1, from+pick(d, steps...)), Kind: pick(d, api.Out, api.Out, api.Out, api.Out, api.In, api.Size, api.Mark)}
	if e.Kind == api.Size {
		e.W, e.H = pick(d, 1, 2, 3, 4, 9, 61), pick(d, 1, 2, 3, 4, 1000)
		return e
	}
	e.Data = chanceData(d)
	return e
}

// chance: a recording of so many events, with keys anywhere.
func chance(d *dice, n int, steps ...int) model {
	t := term.New(1+d.upTo(6), 1+d.upTo(3))
	for range d.upTo(4) {
		t.Write(chanceData(d))
	}
	m := model{start: string(state.Encode(t))}
	often, from := 1+d.upTo(4), 0
	for i := range n + 1 {
		if d.upTo(often) == 0 {
			m.keys = append(m.keys, i)
		}
		if i < n {
			m.events = append(m.events, chanceEvent(d, from, steps))
			from = m.events[i].Time
		}
	}
	return m
}

// upTo: the numbers from a up to b.
func upTo(a, b int) []int {
	var l []int
	for i := a; i <= b; i++ {
		l = append(l, i)
	}
	return l
}

// written: a blank terminal on which a text is written.
func written(w, h int, s string) *term.Term {
	t := term.New(w, h)
	t.Write(s)
	return t
}

// begin: the bytes of such a terminal.
func begin(w, h int, s string) string { return string(state.Encode(written(w, h, s))) }
