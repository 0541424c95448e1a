package seek_test

import (
	"math"
	"slices"
	"strings"
	"testing"

	"flipbook/api"
	"flipbook/file"
	"flipbook/log"
	"flipbook/seek"
	"flipbook/state"
	"flipbook/term"
)

// screen: the lines of the screen that is shown.
func screen(t *term.Term) string {
	s := ""
	for y := range t.H {
		s += t.Text(y) + "|"
	}
	return s
}

// The words as literals: a small recording, its times and numbers of events, and what is to be seen.
func TestSmall(t *testing.T) {
	m := model{start: blank(3, 2), events: []api.Event{
		{Time: 5, Data: "a"},
		{Time: 5, Data: "b"},
		{Time: 6, Kind: api.In, Data: "z"},
		{Time: 6, Data: "\x1b[2J\x1b[1;1H"},
		{Time: 9, Data: "cdef"},
		{Time: 9, Kind: api.Size, W: 2, H: 1},
		{Time: 9, Kind: api.Mark, Data: "y"},
		{Time: 20, Kind: api.Size, W: 4, H: 2},
		{Time: 20, Data: "g"},
	}}
	folds := []string{"||", "a||", "ab||", "ab||", "||", "cde|f|", "f|", "f|", "f||", "fg||"}
	ats := map[int]int{math.MinInt: 0, -1: 0, 0: 0, 4: 0, 5: 2, 6: 4, 7: 4, 8: 4, 9: 7, 10: 7, 19: 7, 20: 9, 21: 9, math.MaxInt: 9}
	for _, m.keys = range [][]int{nil, {0}, {1}, {4}, {9}, {0, 9}, upTo(0, 9)} {
		r, b := m.rec(), []byte(m.indexed())
		for n, want := range folds {
			if got := screen(seek.Fold(r, n)); got != want {
				t.Errorf("fold of %d: %q, want %q", n, got, want)
			}
		}
		for at, n := range ats {
			if got := screen(seek.At(r, at)); got != folds[n] {
				t.Errorf("at %d: %q, want %q", at, got, folds[n])
			}
			x, e := seek.Jump(b, at)
			if e != api.OK || screen(x) != folds[n] {
				t.Errorf("jump to %d: %d, %v, want %q", at, int(e), x, folds[n])
			}
		}
		expectModel(t, "small", m)
	}
}

// The chapter's examples.
func TestExamples(t *testing.T) {
	m := model{start: terminal(blank(4, 1), []api.Event{{Data: "x"}}), events: []api.Event{{Time: 5, Data: "a"}, {Time: 5, Data: "b"}, {Time: 6, Data: "c"}}}
	for _, m.keys = range [][]int{nil, {0}, {1}, {2}, {0, 1, 2, 3}} {
		r := m.rec()
		expectTerm(t, "the beginning", -1, seek.At(r, -1), m.start)
		if s := seek.At(r, 5).Text(0); s != "xab" {
			t.Errorf("at 5: %q", s)
		}
		x, e := seek.Jump(r.Encode(true), 5)
		if e != api.OK || x.Text(0) != "xab" {
			t.Errorf("jump to 5: %v, %d", x, int(e))
		}
	}
}

func TestFoldOfFarNumbers(t *testing.T) {
	for _, n := range []int{0, 1, 7, 8, 9, 16, 17} {
		m := letters(n, 2)
		for _, m.keys = range [][]int{nil, eighths(n), upTo(0, n)} {
			r := m.rec()
			all := terminal(m.start, m.events)
			for _, k := range []int{math.MinInt, -1 << 32, -8, -1, 0} {
				expectTerm(t, "fold", k, seek.Fold(r, k), m.start)
			}
			for _, k := range []int{n, n + 1, n + 8, 1 << 32, math.MaxInt} {
				expectTerm(t, "fold", k, seek.Fold(r, k), all)
			}
		}
	}
}

// Each number of events that the chapter's edges are at, with each kind of keys, and times that lie apart, in pairs, in threes, in tens, and all together.
func TestKeysAndTimes(t *testing.T) {
	for _, n := range []int{0, 1, 2, 7, 8, 9, 15, 16, 17, 24, 33} {
		for _, together := range []int{1, 2, 3, 10, 100} {
			m := letters(n, together)
			for _, m.keys = range [][]int{nil, {0}, {n}, eighths(n), upTo(0, n), upTo(1, n), upTo(n/3, n/2), {n / 2}} {
				expectModel(t, "letters", m)
			}
		}
	}
}

// Times at both ends of what may be.
func TestEndsOfTime(t *testing.T) {
	m := model{start: blank(5, 1), events: []api.Event{
		{Time: 0, Data: "a"}, {Time: 0, Data: "b"}, {Time: 1, Data: "c"}, {Time: api.MaxTime - 2, Data: "d"}, {Time: api.MaxTime - 1, Data: "e"}, {Time: api.MaxTime - 1, Data: "f"},
	}}
	for keys := range 1 << 7 {
		m.keys = nil
		for i := range 7 {
			if keys>>i&1 == 1 {
				m.keys = append(m.keys, i)
			}
		}
		expectModel(t, "ends of time", m)
	}
}

// Keys in each place of a row of events at one time, alone and in rows: those of one time are all in, and none that is later.
func TestKeysAmongEventsOfOneTime(t *testing.T) {
	m := model{start: blank(6, 2)}
	for _, at := range []int{3, 7, 7, 7, 7, 8} {
		m.events = append(m.events, api.Event{Time: at, Data: string(rune('a' + len(m.events)))})
	}
	for from := range 7 {
		for to := from; to < 7; to++ {
			m.keys = upTo(from, to)
			expectModel(t, "one time", m)
		}
	}
}

// Bytes of runes, sequences and strings, parted among events, with keys between them or not.
func TestPartedBytes(t *testing.T) {
	for _, l := range [][]string{
		{"\xE4", "\xB8", "\xAD", "x"},
		{"\xF0\x9F", "\x98", "\x80"},
		{"a\xE4\xB8", "b"},
		{"\x1b", "[", "3", "1", ";", "4", "2", "m", "x"},
		{"\x1b[2;", "2", "H\xE4", "\xB8\xADx"},
		{"\x1b]0;ti", "tle \xC3", "\xA9", "\x07y"},
		{"\x1bP1", "$q", "m\x1b", "\\z"},
		{"\x1b(", "0", "q", "\x0E", "\x1b)0", "q"},
		{"\x1b[?1049", "hab", "\x1b[?1049l", "cd"},
		{"a\x1b[6", "n", "\x1b[c", "\x1b[6n"},
		{"abcd", "", "\r", "中", "\n\n\n\n", "e"},
	} {
		for _, together := range []int{1, 2, 9} {
			m := model{start: blank(4, 2)}
			for i, s := range l {
				m.events = append(m.events, api.Event{Time: i / together * 4, Data: s})
			}
			for _, m.keys = range [][]int{nil, upTo(0, len(l)), {1}, {2}, {1, len(l)}, {len(l) - 1}} {
				expectModel(t, strings.Join(l, ","), m)
			}
		}
	}
}

// A sequence that is under way in the beginning, and what goes on in the first events.
func TestPartedFromTheBeginning(t *testing.T) {
	m := model{events: []api.Event{{Time: 2, Data: "1"}, {Time: 2, Kind: api.Mark, Data: "m"}, {Time: 3, Data: "mx\xE4"}, {Time: 3, Kind: api.In, Data: "m"}, {Time: 4, Data: "\xB8\xAD"}}}
	m.start = terminal(blank(4, 2), []api.Event{{Data: "q\x1b[3"}})
	for _, m.keys = range [][]int{nil, {0}, {1}, {2}, {3}, {4}, upTo(0, 5)} {
		expectModel(t, "under way", m)
	}
	if c := seek.At(m.rec(), 3).At(1, 0); c.Rune != 'x' || c.Style.Fore != 2 {
		t.Errorf("%v", c)
	}
}

// Sizes, smaller and larger, with what the terminal has behind them.
func TestSizes(t *testing.T) {
	m := model{start: terminal(blank(5, 3), []api.Event{{Data: "abcde中fg\r\nh"}})}
	for i, s := range [][2]int{{3, 2}, {5, 3}, {1, 1}, {60, 60}, {61, 61}, {1000, 1000}, {2, 1000}, {1000, 1}, {5, 3}, {5, 3}} {
		m.events = append(m.events, api.Event{Time: i * 3, Kind: api.Size, W: s[0], H: s[1]}, api.Event{Time: i * 3, Data: "中x\r\n"})
	}
	for _, m.keys = range [][]int{nil, eighths(20), upTo(0, 20), {3}, {5, 6, 7}} {
		expectModel(t, "sizes", m)
	}
	x := seek.At(m.rec(), 11)
	if x.W != 60 || x.H != 60 {
		t.Error(x.W, x.H)
	}
}

// Events that do nothing stand among the others, and have times as they do.
func TestEventsThatDoNothing(t *testing.T) {
	m := model{start: blank(5, 2)}
	for i := range 20 {
		e := api.Event{Time: i / 3, Kind: []int{api.In, api.Mark, api.Out}[i%3], Data: string(rune('a' + i))}
		if i%7 == 0 {
			e = api.Event{Time: i / 3, Kind: api.Out}
		}
		m.events = append(m.events, e)
	}
	for _, m.keys = range [][]int{nil, eighths(20), upTo(0, 20), {2, 3}} {
		expectModel(t, "nothing", m)
	}
}

// Recordings that look like chance.
func TestChance(t *testing.T) {
	d := dice(1)
	for range 120 {
		expectModel(t, "chance", chance(&d, d.upTo(14)))
	}
	for range 12 {
		expectModel(t, "long chance", chance(&d, 30+d.upTo(30)))
	}
}

// Recordings that writers, Recover, Rescue and Decode have.
func TestRecordingsOfTheLog(t *testing.T) {
	for _, n := range []int{0, 1, 7, 8, 9, 16, 30} {
		m := letters(n, 3)
		m.keys = eighths(n)
		s := file.New(1 << 20)
		start, _ := state.Decode([]byte(m.start))
		w, e := log.Create(s, "a", start)
		for _, x := range m.events {
			e = max(e, w.Add(x))
		}
		e = max(e, w.Finish())
		b, e2 := s.Read("a")
		decoded, e3 := log.Decode(b)
		rescued, _, e4 := log.Rescue(b)
		recovered, e5 := log.Recover(s, "a")
		if max(e, e2, e3, e4, e5) != api.OK {
			t.Fatal(e, e2, e3, e4, e5)
		}
		for _, at := range m.times() {
			want := m.at(at)
			for _, r := range []*log.Rec{&w.Rec, decoded, rescued, recovered} {
				expectTerm(t, "at", at, seek.At(r, at), want)
				expectTerm(t, "fold", at, seek.Fold(r, m.until(at)), want)
			}
			x, e := seek.Jump(b, at)
			if e != api.OK {
				t.Fatal(at, int(e))
			}
			expectTerm(t, "jump", at, x, want)
		}
	}
}

func TestMarks(t *testing.T) {
	r := &log.Rec{Start: []byte(blank(3, 1)), Events: []api.Event{
		{Time: 0, Kind: api.Mark, Data: "m"},
		{Time: 0, Kind: api.Out, Data: "m"},
		{Time: 1, Kind: api.In, Data: "m"},
		{Time: 2, Kind: api.In, Data: "only"},
		{Time: 2, Kind: api.Out, Data: "only"},
		{Time: 3, Kind: api.Mark, Data: "mm"},
		{Time: 3, Kind: api.Mark, Data: "M"},
		{Time: 3, Kind: api.Mark, Data: "m"},
		{Time: 3, Kind: api.Mark, Data: "m"},
		{Time: 4, Kind: api.Size, W: 2, H: 2},
		{Time: 5, Kind: api.Mark},
		{Time: 5, Kind: api.Out},
		{Time: 6, Kind: api.Mark, Data: "m "},
		{Time: 7, Kind: api.Mark, Data: "\xE4\xB8"},
		{Time: 8, Kind: api.Mark, Data: "\x00"},
		{Time: api.MaxTime - 1, Kind: api.Mark, Data: "m"},
	}}
	for _, c := range []struct {
		text string
		want []int
	}{
		{"m", []int{0, 3, 3, api.MaxTime - 1}},
		{"mm", []int{3}},
		{"M", []int{3}},
		{"m ", []int{6}},
		{" m", nil},
		{"only", nil},
		{"none", nil},
		{"\xE4\xB8", []int{7}},
		{"\uFFFD\uFFFD", nil},
		{"\x00", []int{8}},
		{strings.Repeat("m", 1000), nil},
		{"", []int{0, 3, 3, 3, 3, 5, 6, 7, 8, api.MaxTime - 1}},
	} {
		if got := seek.Marks(r, c.text); !slices.Equal(got, c.want) {
			t.Errorf("%q: %v, want %v", c.text, got, c.want)
		}
	}
	for _, l := range [][]api.Event{nil, {{Data: "m"}, {Kind: api.In, Data: "m"}, {Kind: api.In}, {}}} {
		r := &log.Rec{Start: []byte(blank(3, 1)), Events: l}
		if len(seek.Marks(r, "")) != 0 || len(seek.Marks(r, "m")) != 0 {
			t.Errorf("%v", l)
		}
	}
}

// Keys play no part in it.
func TestMarksOfChance(t *testing.T) {
	d := dice(7)
	for range 50 {
		m := chance(&d, d.upTo(30))
		for i := range m.events {
			if m.events[i].Kind == api.Mark {
				m.events[i].Data = pick(&d, "", "a", "b", "ab")
			}
		}
		for _, text := range []string{"", "a", "b", "ab", "c"} {
			var want []int
			for _, e := range m.events {
				if e.Kind == 3 && (e.Data == text || text == "") {
					want = append(want, e.Time)
				}
			}
			if got := seek.Marks(m.rec(), text); !slices.Equal(got, want) {
				t.Fatalf("%q of %v: %v, want %v", text, m.events, got, want)
			}
		}
	}
}

// What goes out is the caller's own: nothing that is done to it comes to the recording, its bytes, or what goes out next.
func TestWhatGoesOutSharesNothing(t *testing.T) {
	m := letters(20, 2)
	m.events[4] = api.Event{Time: m.events[4].Time, Data: "\x1b[31;4mx\r\n\n\n\n中\x1b[2;3"}
	m.events[11] = api.Event{Time: m.events[11].Time, Kind: api.Mark, Data: "m"}
	m.keys = []int{0, 5, 8, 16, 20}
	r, b := m.rec(), []byte(m.indexed())
	for _, at := range m.times() {
		want := m.at(at)
		jump := func(n int) *term.Term { x, _ := seek.Jump(b, n); return x }
		fold := func(n int) *term.Term { return seek.Fold(r, m.until(n)) }
		of := func(n int) *term.Term { return seek.At(r, n) }
		for _, call := range []func(int) *term.Term{fold, of, jump} {
			x, y := call(at), call(at)
			spoil(x)
			expectTerm(t, "the other one", at, y, want)
			expectTerm(t, "the next one", at, call(at), want)
			if !sameRec(r, m.rec()) || string(b) != m.indexed() {
				t.Fatal("the recording became another one")
			}
		}
	}
	l, k := seek.Marks(r, ""), seek.Marks(r, "")
	l[0] = 77
	_ = append(l, 78)
	if k[0] == 77 || !slices.Equal(seek.Marks(r, ""), k) || !sameRec(r, m.rec()) {
		t.Error("marks are shared")
	}
}

// spoil changes all that a terminal has lists of.
func spoil(x *term.Term) {
	for _, l := range x.Back {
		for i := range l {
			l[i] = api.Cell{Rune: '#'}
		}
	}
	for y := range x.H {
		for c := range x.W {
			x.Put(c, y, api.Cell{Rune: '#'})
			x.Other.Put(c, y, api.Cell{Rune: '#'})
		}
	}
	for i := range x.Parser.Params {
		x.Parser.Params[i] = 9
	}
	x.Write("\n\n\n\n##")
}

// A recording, or bytes, that change later don't change what went out.
func TestWhatWentOutStays(t *testing.T) {
	m := letters(12, 2)
	m.keys = []int{0, 3, 8, 12}
	for _, at := range m.times() {
		r, b := m.rec(), []byte(m.indexed())
		x, y := seek.Fold(r, m.until(at)), seek.At(r, at)
		z, _ := seek.Jump(b, at)
		clear(r.Start)
		clear(r.Events)
		for _, k := range r.Keys {
			clear(k.State)
		}
		clear(b)
		for _, got := range []*term.Term{x, y, z} {
			expectTerm(t, "later", at, got, m.at(at))
		}
	}
}

// P0: the same calls have the same outcome, and none panics, also of recordings of which nothing is said.
func TestP0(t *testing.T) {
	d := dice(3)
	for range 40 {
		m := chance(&d, d.upTo(12))
		r, b := m.rec(), []byte(m.indexed())
		for _, at := range m.times() {
			x, e := seek.Jump(b, at)
			y, f := seek.Jump(b, at)
			if e != f || !state.Same(x, y) || !state.Same(seek.At(r, at), seek.At(r, at)) || !state.Same(seek.Fold(r, at), seek.Fold(r, at)) {
				t.Fatal("the same call, another outcome")
			}
		}
	}
	good := letters(3, 1).rec()
	for _, r := range []*log.Rec{
		{},
		{Start: []byte("no terminal"), Events: good.Events},
		{Start: good.Start, Events: good.Events, Keys: []log.Key{{After: 1}, {After: 2, State: []byte("x")}}},
		{Start: good.Start, Events: good.Events, Keys: []log.Key{{After: -1, State: good.Start}, {After: math.MinInt}}},
		{Start: good.Start, Events: good.Events, Keys: []log.Key{{After: 4, State: good.Start}, {After: math.MaxInt}}},
		{Start: good.Start, Events: good.Events, Keys: []log.Key{{After: 3, State: good.Start}, {After: 1, State: good.Start}}},
		{Start: good.Start, Events: []api.Event{{Time: 9, Kind: 7}, {Time: -3, Kind: api.Size, W: -1, H: 0}, {Time: 2, Kind: -1, W: 5}}},
	} {
		for _, n := range []int{math.MinInt, -1, 0, 1, 2, 3, 15, 25, 35, math.MaxInt} {
			seek.Fold(r, n)
			seek.At(r, n)
			seek.Jump(r.Encode(true), n)
		}
		seek.Marks(r, "")
		seek.Marks(r, "m")
	}
}
