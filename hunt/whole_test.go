package hunt_test

import (
	"math"
	"slices"
	"strings"
	"testing"

	"flipbook/api"
	"flipbook/cut"
	"flipbook/file"
	"flipbook/hunt"
	"flipbook/log"
	"flipbook/seek"
	"flipbook/state"
	"flipbook/term"
)

func shownAt(r *log.Rec, at int) *term.Term { return seek.At(r, at) }

// chanceTexts: some that chanceData writes, and pieces of them.
func chanceTexts(d *dice) []string {
	l := []string{"", "a", "ab", " ", "中", "é"}
	for range 4 {
		text := ""
		for range 1 + d.upTo(3) {
			text += pick(d, "a", "b", "ba", " ", "中", "é", "\uFFFD", "\xE4", "\xAD", "─", "2J")
		}
		l = append(l, text)
	}
	return l
}

// Recordings that look like chance, with keys anywhere, up to the last time too.
func TestChance(t *testing.T) {
	d := dice(1)
	for n := range 160 {
		expectModel(t, "chance", chance(&d, n%16, 0, 0, 1, 2, 5), chanceTexts(&d)...)
		expectModel(t, "far chance", chance(&d, n%9, 0, 0, 1, 1<<40, 1<<61), chanceTexts(&d)...)
	}
	for range 10 {
		expectModel(t, "long chance", chance(&d, 40+d.upTo(40), 0, 1, 1, 2), chanceTexts(&d)...)
	}
}

// Keys change nothing, wherever they are.
func TestKeys(t *testing.T) {
	d := dice(5)
	for range 20 {
		m := chance(&d, 12, 0, 1, 2)
		for _, m.keys = range [][]int{nil, {0}, {8}, {12}, {3, 4, 5}, upTo(0, 12)} {
			expectModel(t, "keys", m, "a", "ab", "中")
		}
	}
}

// Recordings of no event, with the one key that they may have and without.
func TestOfNoEvent(t *testing.T) {
	for _, m := range []model{{start: begin(6, 2, "ab")}, {start: begin(6, 2, "ab"), keys: []int{0}}} {
		r := m.rec()
		if l := hunt.Spans(r, "ab"); !slices.Equal(l, []hunt.Span{{From: 0, To: api.MaxTime}}) {
			t.Error(l)
		}
		for _, from := range m.times() {
			if at, ok := hunt.First(r, "ab", from); !ok || at != from {
				t.Error(from, at, ok)
			}
			if at, ok := hunt.First(r, "x", from); ok || at != 0 {
				t.Error(from, at, ok)
			}
		}
		if l := hunt.Spans(r, "x"); len(l) != 0 {
			t.Error(l)
		}
		expectModel(t, "no event", m, "a", "ab", "x", "")
	}
}

// Recordings that writers, Recover, Rescue and Decode have, with an index and without, and those made of them.
func TestRecordingsOfTheLog(t *testing.T) {
	for _, n := range []int{0, 1, 7, 8, 9, 30} {
		m := model{start: begin(7, 2, "")}
		for i := range n {
			m.events = append(m.events, api.Event{Time: 10 + i/3*10, Data: []string{"ab", "\r", "c\r\n", "\x1b[2J", "a"}[i%5]})
		}
		s := file.New(1 << 20)
		w, e := log.Create(s, "a", term.New(7, 2))
		for _, x := range m.events {
			e = max(e, w.Add(x))
		}
		plain, e2 := s.Read("a")
		e = max(e, w.Finish())
		whole, e3 := s.Read("a")
		r1, e4 := log.Decode(plain)
		r2, e5 := log.Decode(whole)
		r3, _, e6 := log.Rescue(whole)
		r4, e7 := log.Recover(s, "a")
		if max(e, e2, e3, e4, e5, e6, e7) != api.OK {
			t.Fatal(e, e2, e3, e4, e5, e6, e7)
		}
		all := m.moments("ab", "c", "aab", "")
		for i, r := range []*log.Rec{&w.Rec, r1, r2, r3, r4, cut.Keyed(r2, 1), cut.Keyed(r2, 0)} {
			for text, l := range all {
				if got := hunt.Spans(r, text); !slices.Equal(got, spans(l)) {
					t.Errorf("%d events, %d, %q: %v, want %v", n, i, text, got, spans(l))
				}
				for _, x := range l {
					at, ok := hunt.First(r, text, x.at)
					if want, is := first(l, x.at); at != want || ok != is {
						t.Errorf("%d events, %d, %q from %d: %d %v, want %d %v", n, i, text, x.at, at, ok, want, is)
					}
				}
			}
		}
	}
}

// A part of a recording has the spans of the whole one from its own beginning on, as far as it goes.
func TestOfParts(t *testing.T) {
	d := dice(6)
	for range 40 {
		m := chance(&d, 14, 0, 1, 2, 3)
		for _, c := range [][2]int{{0, 5}, {3, 9}, {4, 4}, {6, 1000}} {
			part, e := cut.Trim(m.rec(), c[0], c[1])
			if e != api.OK {
				t.Fatal(int(e))
			}
			for _, text := range []string{"a", "ab", " "} {
				var want []hunt.Span
				for _, s := range hunt.Spans(m.rec(), text) {
					if s.To > c[0] && s.From <= c[1] {
						s.From, s.To = max(0, s.From-c[0]), s.To-c[0]
						if s.To > c[1]-c[0] {
							s.To = api.MaxTime
						}
						want = append(want, s)
					}
				}
				if got := hunt.Spans(part, text); !slices.Equal(got, want) {
					t.Fatalf("%q, %v: %v, want %v", text, c, got, want)
				}
			}
		}
	}
}

// Joined ones: the second one's events go on behind the first one's screen.
func TestOfJoined(t *testing.T) {
	r := &log.Rec{Start: []byte(begin(6, 1, "")), Events: out(2, "x", 5, "\rz")}
	both, e := cut.Join(r, &log.Rec{Start: []byte(begin(6, 1, "x")), Events: out(0, "a", 3, "\rx", 4, "\x1b[2J")})
	if e != api.OK {
		t.Fatal(int(e))
	}
	if l := hunt.Spans(both, "x"); !slices.Equal(l, []hunt.Span{{From: 2, To: 5}, {From: 8, To: 9}}) {
		t.Error(l)
	}
	if l := hunt.Spans(both, "a"); !slices.Equal(l, []hunt.Span{{From: 5, To: 9}}) {
		t.Error(l)
	}
}

// Long ones, in which a text comes and goes at each event: as many spans as that.
func TestLong(t *testing.T) {
	m := model{start: begin(3, 1, "")}
	var want []hunt.Span
	for i := range 2000 {
		m.events = append(m.events, out(4*i+1, "\rx", 4*i+3, "\r\x1b[K")...)
		want = append(want, hunt.Span{From: 4*i + 1, To: 4*i + 3})
	}
	r := cut.Keyed(m.rec(), 100)
	if got := hunt.Spans(r, "x"); !slices.Equal(got, want) {
		t.Error(len(got))
	}
	for i := 0; i < 8000; i += 37 {
		at, ok := hunt.First(r, "x", i)
		if next, is := told(want, i); at != next || ok != is {
			t.Error(i, at, ok)
		}
	}
}

// Events with as much data as may be, on a screen as large as may be.
func TestLarge(t *testing.T) {
	m := model{start: begin(api.MaxSide, api.MaxSide, "")}
	for i := range 20 {
		m.events = append(m.events, api.Event{Time: i, Data: strings.Repeat(string(rune('a'+i)), api.MaxData)})
	}
	// The i-th rune is in line i / 60. Once there are more lines than 60, those at the top go out.
	for text, want := range map[string]hunt.Span{
		"a":                                {From: 0, To: 9},   // up to line 6: out as there are 67, of 4000 runes
		strings.Repeat("c", api.MaxSide):   {From: 2, To: 11},  // line 19: out as there are 80, of 4800 runes
		"jk":                               {From: 10, To: 18}, // line 66: out as there are 127, of 7600 runes
		"k":                                {From: 10, To: 19}, // up to line 73: out as there are 134, of 8000 runes
		"l":                                {From: 11, To: api.MaxTime},
		strings.Repeat("t", api.MaxSide+1): {},
	} {
		l := hunt.Spans(m.rec(), text)
		if want != (hunt.Span{}) && !slices.Equal(l, []hunt.Span{want}) || want == (hunt.Span{}) && len(l) != 0 {
			t.Errorf("%.9s: %v, want %v", text, l, want)
		}
	}
}

// What goes out is the caller's own, and what is handed in stays as it was.
func TestNothingIsShared(t *testing.T) {
	m := model{start: begin(6, 2, "x"), events: out(1, "\rz", 2, "\rx", 3, "\rz", 4, "\rx"), keys: []int{0, 2, 4}}
	r := m.rec()
	before := string(r.Encode(true))
	want := []hunt.Span{{From: 0, To: 1}, {From: 2, To: 3}, {From: 4, To: api.MaxTime}}
	a, b := hunt.Spans(r, "x"), hunt.Spans(r, "x")
	for i := range a {
		a[i] = hunt.Span{From: 77, To: 78}
	}
	_ = append(a[:1], hunt.Span{})
	if !slices.Equal(b, want) || !slices.Equal(hunt.Spans(r, "x"), want) {
		t.Error(b)
	}
	hunt.First(r, "x", 1)
	if string(r.Encode(true)) != before {
		t.Error("the recording became another one")
	}
	clear(r.Start)
	clear(r.Events)
	for _, k := range r.Keys {
		clear(k.State)
	}
	if !slices.Equal(b, want) {
		t.Error("what went out became another one:", b)
	}
}

// P0: the same calls have the same outcome, and none panics, also of recordings of which nothing is said.
func TestP0(t *testing.T) {
	d := dice(3)
	for range 40 {
		r := chance(&d, d.upTo(12), 0, 1, 2).rec()
		for _, text := range chanceTexts(&d) {
			if !slices.Equal(hunt.Spans(r, text), hunt.Spans(r, text)) {
				t.Fatal("the same call, another outcome")
			}
		}
	}
	good := model{start: begin(6, 2, "x"), events: out(1, "\rz", 2, "\rx", 3, "\rz")}.rec()
	no := []byte("no terminal")
	for _, r := range []*log.Rec{
		{},
		{Start: no, Events: good.Events},
		{Start: no, Events: good.Events, Keys: []log.Key{{After: 1, State: good.Start}}},
		{Start: good.Start, Events: good.Events, Keys: []log.Key{{After: 1}, {After: 2, State: no}}},
		{Start: good.Start, Events: good.Events, Keys: []log.Key{{After: -1, State: good.Start}, {After: math.MinInt}}},
		{Start: good.Start, Events: good.Events, Keys: []log.Key{{After: 4, State: good.Start}, {After: math.MaxInt}}},
		{Start: good.Start, Events: []api.Event{{Time: 9, Kind: 7}, {Time: -3, Kind: api.Size, W: -1, H: 0}, {Time: 2, Kind: -1, W: 5}}},
		{Start: good.Start, Events: []api.Event{{Time: math.MaxInt, Data: "z"}, {Time: math.MinInt, Data: "x"}, {Time: api.MaxTime, Data: "z"}}},
	} {
		for _, text := range []string{"", "x", "z", "\xFF", strings.Repeat("x", 100000)} {
			hunt.Spans(r, text)
			for _, from := range []int{math.MinInt, -1, 0, 1, 2, 3, api.MaxTime, math.MaxInt} {
				hunt.First(r, text, from)
			}
		}
	}
	if !hunt.Shows(shownAt(good, 0), "x") || string(good.Start) != string(state.Encode(shownAt(good, 0))) {
		t.Error("the recording became another one")
	}
}
