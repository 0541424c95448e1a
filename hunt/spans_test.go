package hunt_test

import (
	"fmt"
	"math"
	"slices"
	"strings"
	"testing"

	"flipbook/api"
	"flipbook/hunt"
)

// late: the last time that an event may have.
const late = api.MaxTime - 1

// out: what is written at times: a text behind each.
func out(l ...any) []api.Event {
	var events []api.Event
	for i := 0; i < len(l); i += 2 {
		events = append(events, api.Event{Time: l[i].(int), Data: l[i+1].(string)})
	}
	return events
}

// rows: what happens on a screen of 6 by 2, on which a text was written ahead, and when another text is shown.
var rows = []struct {
	what, ahead string
	events      []api.Event
	text        string
	want        []hunt.Span
}{
	{"a letter that is written at 3 and cleared at 7", "", out(3, "x", 7, "\x1b[2J"), "x", []hunt.Span{{3, 7}}},
	{"written and never cleared", "", out(3, "x"), "x", []hunt.Span{{3, api.MaxTime}}},
	{"there from the beginning on", "x", nil, "x", []hunt.Span{{0, api.MaxTime}}},
	{"there from the beginning on, cleared at 7", "x", out(7, "\x1b[2J"), "x", []hunt.Span{{0, 7}}},
	{"there from the beginning on, cleared at 1", "x", out(1, "\x1b[2J"), "x", []hunt.Span{{0, 1}}},
	{"there at the beginning, cleared at 0", "x", out(0, "\x1b[2J"), "x", nil},
	{"written at 0", "", out(0, "x"), "x", []hunt.Span{{0, api.MaxTime}}},
	{"written at 0, cleared at 1", "", out(0, "x", 1, "\x1b[2J"), "x", []hunt.Span{{0, 1}}},
	{"written at 0, cleared at 0", "", out(0, "x", 0, "\x1b[2J"), "x", nil},
	{"cleared at 0, written at 0", "x", out(0, "\x1b[2J", 0, "x"), "x", []hunt.Span{{0, api.MaxTime}}},
	{"never written", "abc", out(3, "de", 7, "\x1b[2J"), "x", nil},
	{"of no event", "abc", nil, "x", nil},
	{"of no event, on a blank screen", "", nil, "x", nil},
	{"the empty text", "abc", out(3, "x"), "", nil},
	{"the empty text of no event", "", nil, "", nil},
	{"a text that comes by more than one event", "", out(3, "ab", 5, "cd", 9, "\x1b[2J"), "bc", []hunt.Span{{5, 9}}},
	{"a text that is parted in one", "", out(3, "abcd", 5, "\x1b[1;3H ", 9, "\x1b[2J"), "bc", []hunt.Span{{3, 5}}},
	{"a rune that is parted", "", out(3, "\xE4", 5, "\xB8", 8, "\xAD", 9, "\x1b[2J"), "中", []hunt.Span{{8, 9}}},
	{"a sequence that is parted", "x", out(3, "\x1b[", 5, "2", 8, "J"), "x", []hunt.Span{{0, 8}}},
	{"often", "", out(1, "x", 2, "\rz", 4, "\rx", 8, "\rz", 16, "\rx", 17, "\rz"), "x", []hunt.Span{{1, 2}, {4, 8}, {16, 17}}},
	{"often, the other way round", "", out(1, "x", 2, "\rz", 4, "\rx", 8, "\rz", 16, "\rx", 17, "\rz"), "z", []hunt.Span{{2, 4}, {8, 16}, {17, api.MaxTime}}},
	{"often, from the beginning on", "x", out(1, "\rz", 2, "\rx", 3, "\rz", 4, "\rx"), "x", []hunt.Span{{0, 1}, {2, 3}, {4, api.MaxTime}}},
	{"coming and going within one time", "", out(3, "a", 5, "x", 5, "\x1b[2J", 6, "b"), "x", nil},
	{"going and coming within one time", "x", out(5, "\x1b[2J", 5, "\rx"), "x", []hunt.Span{{0, api.MaxTime}}},
	{"going, coming and going within one time", "x", out(5, "\x1b[2J", 5, "\rx", 5, "\x1b[2J"), "x", []hunt.Span{{0, 5}}},
	{"coming, going and coming within one time", "", out(5, "x", 5, "\rz", 5, "\rx", 9, "\rz"), "x", []hunt.Span{{5, 9}}},
	{"coming and going within one event", "", out(5, "x\x1b[2J"), "x", nil},
	{"going and coming within one event", "x", out(5, "\x1b[2J\rx"), "x", []hunt.Span{{0, api.MaxTime}}},
	{"there throughout, while events go on", "x", out(0, "a", 1, "b", 1, "c", 9, "\r\nd", 9, "\x1b[K"), "x", []hunt.Span{{0, api.MaxTime}}},
	{"coming while it is there in another line", "x", out(2, "\r\nx", 4, "\x1b[1;1Hz", 8, "\x1b[2;1Hz"), "x", []hunt.Span{{0, 8}}},
	{"going from one line as it comes in another one", "x", out(5, "\rz\r\nx", 9, "\rz"), "x", []hunt.Span{{0, 9}}},
	{"written at the last time", "", out(late, "x"), "x", []hunt.Span{{late, api.MaxTime}}},
	{"cleared at the last time", "x", out(late, "\x1b[2J"), "x", []hunt.Span{{0, late}}},
	{"written and cleared at the last time", "", out(late, "x", late, "\x1b[2J"), "x", nil},
	{"cleared and written at the last time", "x", out(late, "\x1b[2J", late, "x"), "x", []hunt.Span{{0, api.MaxTime}}},
	{"written just ahead of the last time", "", out(late-1, "x", late, "\x1b[2J"), "x", []hunt.Span{{late - 1, late}}},
	{"on the alternate screen", "x", out(3, "\x1b[?1049h", 5, "y", 9, "\x1b[?1049l"), "y", []hunt.Span{{5, 9}}},
	{"on the main screen", "x", out(3, "\x1b[?1049h", 5, "y", 9, "\x1b[?1049l"), "x", []hunt.Span{{0, 3}, {9, api.MaxTime}}},
	{"out at the top", "x\r\n", out(3, "y", 5, "\r\nz", 8, "\r\nz"), "x", []hunt.Span{{0, 5}}},
	{"on to the line ahead, and out", "x\r\n", out(3, "y", 5, "\r\nz", 8, "\r\nz"), "y", []hunt.Span{{3, 8}}},
	{"over a line's end", "", out(3, "abcdefg", 5, "\x1b[2J"), "fg", nil},
	{"a blank within", "", out(3, "a ", 5, "b", 7, "\x1b[2J"), " ", []hunt.Span{{5, 7}}},
	{"a style that changes alone", "x", out(3, "\r\x1b[1mx", 5, "\x1b[m"), "x", []hunt.Span{{0, api.MaxTime}}},
	{"of In and Mark", "", []api.Event{{Time: 3, Kind: api.In, Data: "x"}, {Time: 5, Kind: api.Mark, Data: "x"}}, "x", nil},
	{"of In and Mark that would clear it", "x", []api.Event{{Time: 3, Kind: api.In, Data: "\x1b[2J"}, {Time: 5, Kind: api.Mark, Data: "\x1b[2J"}}, "x", []hunt.Span{{0, api.MaxTime}}},
	{"of In and Mark ahead of Out, at one time", "", []api.Event{{Time: 3, Kind: api.In, Data: "x"}, {Time: 3, Kind: api.Mark, Data: "x"}, {Time: 5, Data: "x"}, {Time: 5, Kind: api.In, Data: "\x1b[2J"}}, "x", []hunt.Span{{5, api.MaxTime}}},
	{"Size that cuts columns off", "abcd", []api.Event{{Time: 4, Kind: api.Size, W: 3, H: 2}}, "cd", []hunt.Span{{0, 4}}},
	{"Size that cuts no column of it off", "abcd", []api.Event{{Time: 4, Kind: api.Size, W: 4, H: 2}}, "cd", []hunt.Span{{0, api.MaxTime}}},
	{"Size that cuts off and widens again", "abcd", []api.Event{{Time: 4, Kind: api.Size, W: 3, H: 2}, {Time: 8, Kind: api.Size, W: 6, H: 2}}, "cd", []hunt.Span{{0, 4}}},
	{"Size that widens again, and what is written then", "abcd", []api.Event{{Time: 4, Kind: api.Size, W: 3, H: 2}, {Time: 8, Kind: api.Size, W: 6, H: 2}, {Time: 9, Data: "\rabcd"}}, "cd", []hunt.Span{{0, 4}, {9, api.MaxTime}}},
	{"Size that cuts off, and what is written then, within one time", "abcd", []api.Event{{Time: 4, Kind: api.Size, W: 3, H: 2}, {Time: 4, Kind: api.Size, W: 6, H: 2}, {Time: 4, Data: "\rabcd"}}, "cd", []hunt.Span{{0, api.MaxTime}}},
	{"Size that cuts a wide rune", "a中", []api.Event{{Time: 4, Kind: api.Size, W: 2, H: 2}}, "中", []hunt.Span{{0, 4}}},
	{"Size that leaves out the last lines", "a\r\nx\x1b[H", []api.Event{{Time: 4, Kind: api.Size, W: 6, H: 1}}, "x", []hunt.Span{{0, 4}}},
	{"Size that lets the first lines out", "x\r\na", []api.Event{{Time: 4, Kind: api.Size, W: 6, H: 1}, {Time: 8, Kind: api.Size, W: 6, H: 2}}, "x", []hunt.Span{{0, 4}}},
	{"Size by which more lines stay", "x\r\n", []api.Event{{Time: 4, Kind: api.Size, W: 6, H: 3}, {Time: 8, Data: "\r\n"}, {Time: 9, Data: "\r\n"}}, "x", []hunt.Span{{0, 9}}},
	{"Size by which a text fits in a line", "", []api.Event{{Time: 2, Data: "abcdefgh"}, {Time: 4, Kind: api.Size, W: 8, H: 2}, {Time: 6, Data: "\x1b[2J\x1b[Habcdefgh"}}, "fg", []hunt.Span{{6, api.MaxTime}}},
	{"Size that is larger than may be", "", []api.Event{{Time: 4, Kind: api.Size, W: 1000, H: 1000}, {Time: 5, Data: "\x1b[999;999Hx"}}, "x", []hunt.Span{{5, api.MaxTime}}},
}

// rowModel: a row's recording, without keys.
func rowModel(i int) model { return model{start: begin(6, 2, rows[i].ahead), events: rows[i].events} }

func TestSpansSmall(t *testing.T) {
	for i, c := range rows {
		m := rowModel(i)
		for _, m.keys = range [][]int{nil, {0}, {len(m.events)}, upTo(0, len(m.events))} {
			if got := hunt.Spans(m.rec(), c.text); !slices.Equal(got, c.want) {
				t.Errorf("%s, keys %v: %v, want %v", c.what, m.keys, got, c.want)
			}
			expectModel(t, c.what, m, c.text)
		}
	}
}

// First of each time about the spans of each row is what they tell, and none behind the last one.
func TestFirstSmall(t *testing.T) {
	for i, c := range rows {
		r := rowModel(i).rec()
		from := 0
		for _, s := range c.want {
			for _, x := range []struct{ from, want int }{
				{from, s.From}, {s.From - 1, s.From}, {s.From, s.From}, {(s.From + s.To) / 2, (s.From + s.To) / 2}, {s.To - 1, s.To - 1},
			} {
				if x.from < 0 {
					continue
				}
				if at, ok := hunt.First(r, c.text, x.from); !ok || at != x.want {
					t.Errorf("%s: from %d: %d %v, want %d", c.what, x.from, at, ok, x.want)
				}
			}
			from = s.To
		}
		for _, x := range []int{from, from + 1, late, api.MaxTime, math.MaxInt} {
			at, ok := hunt.First(r, c.text, x)
			want, is := x, true
			if from != api.MaxTime {
				want, is = 0, false
			}
			// Times of which spans tell nothing: up to the last one it stays as it was; what isn't shown then isn't any more.
			if x >= from && (at != want || ok != is) {
				t.Errorf("%s: from %d: %d %v", c.what, x, at, ok)
			}
		}
	}
}

// A from below 0: there the beginning is shown, which may be another one than that at 0.
func TestFirstBelowZero(t *testing.T) {
	for _, c := range []struct {
		what, ahead string
		events      []api.Event
		early       bool // is it shown below 0?
		want        int  // the earliest time from 0 on; -1: none
	}{
		{"there from the beginning on", "x", nil, true, 0},
		{"there up to 5", "x", out(5, "\x1b[2J"), true, 0},
		{"cleared at 0", "x", out(0, "\x1b[2J"), true, -1},
		{"cleared at 0 and written at 8", "x", out(0, "\x1b[2J", 8, "x"), true, 8},
		{"cleared and written at 0", "x", out(0, "\x1b[2J", 0, "x"), true, 0},
		{"written at 0", "", out(0, "x"), false, 0},
		{"written and cleared at 0", "", out(0, "x", 0, "\x1b[2J"), false, -1},
		{"written at 3", "", out(3, "x"), false, 3},
		{"never written", "", out(3, "z"), false, -1},
		{"of no event", "", nil, false, -1},
	} {
		m := model{start: begin(6, 2, c.ahead), events: c.events}
		for _, m.keys = range [][]int{nil, {0}, upTo(0, len(m.events))} {
			for _, from := range []int{math.MinInt, math.MinInt + 1, -api.MaxTime, -1000, -2, -1, 0} {
				want, is := c.want, c.want >= 0
				if c.early && from < 0 {
					want, is = from, true
				} else if !is {
					want = 0
				}
				if at, ok := hunt.First(m.rec(), "x", from); at != want || ok != is {
					t.Errorf("%s, keys %v, from %d: %d %v, want %d %v", c.what, m.keys, from, at, ok, want, is)
				}
			}
		}
	}
}

// A from at MaxTime and above: there is what all events lead to.
func TestFirstFarOn(t *testing.T) {
	for data, want := range map[string]bool{"x": true, "x\x1b[2J": false, "ax": true, "": false} {
		for _, at := range []int{0, 7, late} {
			m := model{start: begin(6, 2, ""), events: out(at, data)}
			for _, from := range []int{late, api.MaxTime, api.MaxTime + 1, math.MaxInt - 1, math.MaxInt} {
				got, ok := hunt.First(m.rec(), "x", from)
				if ok != want || want && got != from || !want && got != 0 {
					t.Errorf("%q at %d, from %d: %d %v", data, at, from, got, ok)
				}
			}
		}
	}
}

// What is never shown, and the empty text, which always would be: 0, false, and no span.
func TestNone(t *testing.T) {
	m := model{start: begin(6, 2, "abc"), events: append(out(0, "d", 3, "\x1b[2J", 3, "ef\r\n", 8, "g"),
		api.Event{Time: 9, Kind: api.In, Data: "never"}, api.Event{Time: 9, Kind: api.Mark, Data: "never"})}
	for _, m.keys = range [][]int{nil, {3}, upTo(0, 6)} {
		for _, text := range []string{"", "never", "efg", "f\r\ng", "g ", "\x00", "\xFF", strings.Repeat("abc", 10000)} {
			if l := hunt.Spans(m.rec(), text); len(l) != 0 {
				t.Errorf("%.20q: %v", text, l)
			}
			for _, from := range m.times() {
				if at, ok := hunt.First(m.rec(), text, from); at != 0 || ok {
					t.Errorf("%.20q from %d: %d %v", text, from, at, ok)
				}
			}
		}
	}
}

// Each time alone: a time is within the spans if At shows the text then, and First is the next such one.
func TestEachTime(t *testing.T) {
	d := dice(4)
	for n := range 60 {
		m := chance(&d, n%20, 0, 0, 1, 1, 2, 3)
		end := 3
		if len(m.events) > 0 {
			end += m.events[len(m.events)-1].Time
		}
		r := m.rec()
		for _, text := range []string{"a", "ab", " ", "é", "中", "\xB8"} {
			var shown []bool
			for at := range end {
				shown = append(shown, shows(shownAt(r, at), text))
			}
			expectEachTime(t, fmt.Sprint(n, text), shown, hunt.Spans(r, text))
			for at := range end {
				want, is := slices.Index(shown[at:], true)+at, slices.Contains(shown[at:], true)
				if !is {
					want = 0
				}
				if got, ok := hunt.First(r, text, at); got != want || ok != is {
					t.Fatalf("%d, %q from %d: %d %v, want %d %v", n, text, at, got, ok, want, is)
				}
			}
		}
	}
}

// expectEachTime: spans have the times that are shown, and all behind the last one, if that is.
func expectEachTime(t *testing.T, what string, shown []bool, l []hunt.Span) {
	t.Helper()
	expectRight(t, what, l)
	for at, is := range shown {
		within := slices.ContainsFunc(l, func(s hunt.Span) bool { return s.From <= at && at < s.To })
		if within != is {
			t.Fatalf("%s: at %d %v: %v", what, at, is, l)
		}
	}
	last := len(l) > 0 && l[len(l)-1].To == api.MaxTime
	if last != shown[len(shown)-1] {
		t.Fatalf("%s: behind all: %v", what, l)
	}
}
