package cut_test

import (
	"fmt"
	"math"
	"slices"
	"strings"
	"testing"

	"flipbook/api"
	"flipbook/cut"
	"flipbook/file"
	"flipbook/log"
	"flipbook/seek"
	"flipbook/state"
)

// told: the events as a text, for rows of literals.
func told(l []api.Event) string {
	var s []string
	for _, e := range l {
		if e.Kind == api.Size {
			s = append(s, fmt.Sprintf("%d %dx%d", e.Time, e.W, e.H))
		} else {
			s = append(s, fmt.Sprintf("%d %s", e.Time, e.Data))
		}
	}
	return strings.Join(s, ", ")
}

// The words as literals: what it begins with, and what happens then.
func TestTrimSmall(t *testing.T) {
	const late = api.MaxTime - 1
	m := model{start: written(6, 1, ">"), events: []api.Event{
		{Time: 0, Data: "a"},
		{Time: 5, Data: "b"},
		{Time: 5, Kind: api.In, Data: "i"},
		{Time: 5, Data: "c"},
		{Time: 8, Kind: api.Mark, Data: "m"},
		{Time: 8, Data: "d"},
		{Time: 20, Kind: api.Size, W: 9, H: 1},
		{Time: late, Data: "e"},
		{Time: late, Data: "f"},
	}}
	for _, c := range []struct {
		a, b          int
		start, events string
	}{
		{0, 0, ">a|", ""},
		{0, 1, ">a|", ""},
		{0, 4, ">a|", ""},
		{0, 5, ">a|", "5 b, 5 i, 5 c"},
		{0, 7, ">a|", "5 b, 5 i, 5 c"},
		{0, 8, ">a|", "5 b, 5 i, 5 c, 8 m, 8 d"},
		{1, 1, ">a|", ""},
		{4, 5, ">a|", "1 b, 1 i, 1 c"},
		{4, 8, ">a|", "1 b, 1 i, 1 c, 4 m, 4 d"},
		{5, 5, ">abc|", ""},
		{5, 7, ">abc|", ""},
		{5, 8, ">abc|", "3 m, 3 d"},
		{5, 19, ">abc|", "3 m, 3 d"},
		{5, 20, ">abc|", "3 m, 3 d, 15 9x1"},
		{6, 8, ">abc|", "2 m, 2 d"},
		{7, 7, ">abc|", ""},
		{8, 8, ">abcd|", ""},
		{8, 20, ">abcd|", "12 9x1"},
		{9, 19, ">abcd|", ""},
		{19, 20, ">abcd|", "1 9x1"},
		{20, 20, ">abcd|", ""},
		{20, late - 1, ">abcd|", ""},
		{late - 1, late - 1, ">abcd|", ""},
		{late - 1, late, ">abcd|", "1 e, 1 f"},
		{late - 1, math.MaxInt, ">abcd|", "1 e, 1 f"},
		{late, late, ">abcdef|", ""},
		{late, late + 1, ">abcdef|", ""},
		{api.MaxTime, api.MaxTime, ">abcdef|", ""},
		{api.MaxTime, math.MaxInt, ">abcdef|", ""},
		{math.MaxInt, math.MaxInt, ">abcdef|", ""},
		{0, late - 1, ">a|", "5 b, 5 i, 5 c, 8 m, 8 d, 20 9x1"},
		{0, late, ">a|", "5 b, 5 i, 5 c, 8 m, 8 d, 20 9x1, 4611686018427387903 e, 4611686018427387903 f"},
		{0, math.MaxInt, ">a|", "5 b, 5 i, 5 c, 8 m, 8 d, 20 9x1, 4611686018427387903 e, 4611686018427387903 f"},
		{20, late, ">abcd|", "4611686018427387883 e, 4611686018427387883 f"},
	} {
		for _, m.keys = range [][]int{nil, {8}, {0, 3, 6}, upTo(0, 9)} {
			what := fmt.Sprint("from ", c.a, " up to ", c.b)
			r, e := cut.Trim(m.rec(), c.a, c.b)
			if e != api.OK {
				t.Fatal(what, int(e))
			}
			if got := shown(r, -1); got != c.start {
				t.Errorf("%s: begins with %q, want %q", what, got, c.start)
			}
			if got := told(r.Events); got != c.events {
				t.Errorf("%s: %q, want %q", what, got, c.events)
			}
			expectRec(t, what, r, m.trimmed(c.a, c.b))
		}
	}
}

// The chapter's example: what happened at 0 is in the beginning.
func TestTrimOfAll(t *testing.T) {
	m := model{start: written(6, 1, "x"), events: []api.Event{{Data: "a"}, {Data: "b"}, {Time: 3, Data: "c"}, {Time: 7, Data: "d"}}}
	r, e := cut.Trim(m.rec(), 0, m.rec().Last())
	if e != api.OK || shown(r, -1) != "xab|" || told(r.Events) != "3 c, 7 d" || shown(r, 7) != "xabcd|" {
		t.Error(r, int(e))
	}
}

func TestTrimOfWrongTimes(t *testing.T) {
	for _, m := range []model{letters(0, 1), letters(3, 1), letters(20, 4)} {
		r := m.rec()
		for _, c := range [][2]int{
			{-1, -1}, {-1, 0}, {-1, 5}, {-1, 30}, {-1, math.MaxInt}, {-10, -5}, {-api.MaxTime, 0},
			{math.MinInt, math.MinInt}, {math.MinInt, -1}, {math.MinInt, 0}, {math.MinInt, math.MaxInt},
			{0, -1}, {0, math.MinInt}, {1, 0}, {10, 9}, {20, 10}, {3, 2}, {30, -30}, {api.MaxTime, api.MaxTime - 1}, {math.MaxInt, math.MaxInt - 1}, {math.MaxInt, 0}, {math.MaxInt, math.MinInt},
			{-1, -2}, {-1, math.MinInt}, {math.MinInt + 1, math.MinInt},
		} {
			x, e := cut.Trim(r, c[0], c[1])
			expectError(t, fmt.Sprint(c), x, e, api.ErrArg)
		}
		expectRec(t, "as it was", r, m)
	}
}

// expectTrims: whatever a and b of some times are, it is trimmed by the words, and shows at each of some times what the whole one shows.
func expectTrims(t *testing.T, what string, m model, times []int) {
	t.Helper()
	r, states := m.rec(), m.states()
	for i, a := range times {
		for _, b := range times[i:] {
			what := fmt.Sprint(what, ", from ", a, " up to ", b)
			x, e := cut.Trim(r, a, b)
			if e != api.OK {
				t.Fatal(what, int(e))
			}
			expectRec(t, what, x, m.trimmed(a, b))
			for _, at := range times[i:] {
				if at > b {
					break
				}
				expectShown(t, fmt.Sprint(what, ", at ", at), seek.At(x, at-a), states[m.until(at)])
			}
			expectShown(t, what+", behind", seek.At(x, math.MaxInt), states[m.until(b)])
			expectShown(t, what+", ahead", seek.At(x, -1), states[m.until(a)])
		}
	}
	expectRec(t, what+" as it was", r, m)
}

// P16.2, each time of recordings that look like chance, for each a and b: held against At of the whole one.
func TestTrimOfChance(t *testing.T) {
	d := dice(1)
	for n := range 22 {
		m := chance(&d, n, 0, 0, 0, 0, 1, 1, 2)
		expectTrims(t, fmt.Sprint("chance ", n), m, upTo(0, lastTime(m.events)+2))
		r := m.rec()
		for range 20 {
			a := d.upTo(lastTime(m.events) + 2)
			b := a + d.upTo(lastTime(m.events)+2)
			x, _ := cut.Trim(r, a, b)
			for at := range b - a + 1 {
				if !state.Same(seek.At(x, at), seek.At(r, a+at)) {
					t.Fatal("from", a, "up to", b, "at", at, m)
				}
			}
		}
	}
}

// Times that lie far apart, up to both ends of what may be.
func TestTrimOfFarTimes(t *testing.T) {
	d := dice(4)
	for n := range 7 {
		m := chance(&d, n, 0, 0, 1, 127, 1<<30, 1<<58)
		expectTrims(t, "far", m, m.times())
	}
	m := letters(6, 2)
	for i, at := range []int{0, 1, 1, api.MaxTime - 2, api.MaxTime - 1, api.MaxTime - 1} {
		m.events[i].Time = at
	}
	expectTrims(t, "ends of time", m, m.times())
}

// Each number of events that keys hang on, with each kind of keys, and what Encode, Decode and Jump tell of it.
func TestTrimKeys(t *testing.T) {
	for _, n := range []int{0, 1, 7, 8, 9, 16, 17, 25} {
		m := letters(n, 1)
		for _, m.keys = range [][]int{nil, {0}, m.keyed(8).keys, upTo(0, n), {n}} {
			r, states := m.rec(), m.states()
			for _, a := range []int{0, 5, 10, 15, 20, 80, 90, n * 10, n*10 + 1} {
				x, e := cut.Trim(r, a, a+170)
				if e != api.OK {
					t.Fatal(n, a, int(e))
				}
				want := m.trimmed(a, a+170)
				expectRec(t, "keys", x, want)
				expectBytes(t, "keys", x, want)
				whole := x.Encode(true)
				for at := 0; at <= 170; at += 5 {
					y, e := seek.Jump(whole, at)
					if e != api.OK {
						t.Fatal(n, a, at, int(e))
					}
					expectShown(t, "jump", y, states[m.until(a+at)])
				}
			}
		}
	}
}

// Keys stand behind each eighth event of those that are left, not of those that there were.
func TestTrimCountsAnew(t *testing.T) {
	m := letters(30, 1).keyed(8)
	for _, c := range []struct {
		a, b int
		want []int
	}{
		{0, 300, []int{8, 16, 24}},
		{10, 300, []int{8, 16, 24}},
		{60, 300, []int{8, 16, 24}},
		{70, 300, []int{8, 16}},
		{70, 150, []int{8}},
		{70, 149, nil},
		{220, 300, []int{8}},
		{230, 300, nil},
		{0, 79, nil},
		{0, 80, []int{8}},
	} {
		x, e := cut.Trim(m.rec(), c.a, c.b)
		if e != api.OK || !slices.Equal(afters(x), c.want) {
			t.Errorf("from %d up to %d: %v, want %v", c.a, c.b, afters(x), c.want)
		}
	}
}

// What is under way at a goes on behind it: runes, sequences, strings, the alternate screen, lines that went out.
func TestTrimWithinWhatGoesOn(t *testing.T) {
	for _, l := range [][]string{
		{"\xE4", "\xB8", "\xAD", "x"},
		{"\xF0\x9F", "\x98", "\x80"},
		{"\x1b", "[", "3", "1", ";", "4", "2", "m", "x"},
		{"\x1b[2;", "2", "H\xE4", "\xB8\xADx"},
		{"\x1b]0;ti", "tle \xC3", "\xA9", "\x07y"},
		{"\x1bP1", "$q", "m\x1b", "\\z"},
		{"\x1b(", "0", "q", "\x0E", "\x1b)0", "q"},
		{"ab\x1b[?1049", "hcd", "e", "\x1b[?1049l", "f"},
		{"\x1b[?1049h", "\x1b[2;2Hx", "\x1b7\x1b[31m", "y\x1b[?1049l", "z"},
		{"a\x1b[6", "n", "\x1b[c", "\x1b[6n"},
		{"a\n", "b\n", "c\n\n", "d\n", "e\n\n", "f"},
		{"\x1b[1;2r", "\x1b[?6h", "\n\n\n", "x"},
		{"\x1b[4h", "abc", "\x1b[1G", "d"},
		{"abcd", "e", "\x1b[?7l", "fghijk", "l"},
	} {
		m := model{start: blank(4, 2)}
		for i, s := range l {
			m.events = append(m.events, api.Event{Time: 1 + i*2, Data: s})
		}
		for _, m.keys = range [][]int{nil, upTo(0, len(l)), {1}, {2, 3}} {
			expectTrims(t, strings.Join(l, ","), m, upTo(0, 2*len(l)+1))
		}
	}
}

// What that shows, as literals.
func TestTrimShowsWhatGoesOn(t *testing.T) {
	m := model{start: written(4, 2, "0\x1b["), events: []api.Event{
		{Time: 1, Data: "3"},
		{Time: 2, Data: "1mx\xE4"},
		{Time: 3, Data: "\xB8"},
		{Time: 4, Data: "\xADy\r\n\n"},
		{Time: 5, Data: "\n\x1b[?1049h"},
		{Time: 6, Data: "z"},
		{Time: 7, Data: "\x1b[?1049l!"},
	}}
	r := m.rec()
	for a := range 9 {
		x, e := cut.Trim(r, a, 9)
		if e != api.OK {
			t.Fatal(int(e))
		}
		end := seek.At(x, 9-a)
		if screen(end) != "|!|" || len(end.Back) != 3 || end.Back[0][1].Rune != 'x' || end.Back[0][1].Style.Fore != 2 || end.Back[0][2].Rune != '中' {
			t.Errorf("from %d: %v", a, end)
		}
	}
	for _, c := range []struct {
		a    int
		want string
	}{{0, "0|"}, {1, "0|"}, {2, "0x|"}, {3, "0x|"}, {5, "|"}, {6, "|"}, {7, "|"}} {
		x, _ := cut.Trim(r, c.a, 9)
		if got := shown(x, 0); !strings.HasPrefix(got, c.want) {
			t.Errorf("from %d: %q, want %q", c.a, got, c.want)
		}
	}
	x, _ := cut.Trim(r, 6, 6)
	if now := seek.At(x, 0); !now.Alt || len(now.Back) != 3 {
		t.Errorf("%v", now)
	}
}

// Sizes ahead of a, at it, behind it, and at b.
func TestTrimSizes(t *testing.T) {
	m := model{start: written(5, 3, "abcde中fg\r\nh")}
	for i, s := range [][2]int{{3, 2}, {5, 3}, {1, 1}, {60, 60}, {61, 61}, {1000, 1000}, {2, 1000}, {1000, 1}, {5, 3}, {5, 3}} {
		m.events = append(m.events, api.Event{Time: i, Kind: api.Size, W: s[0], H: s[1]}, api.Event{Time: i, Data: "中x\r\n"})
	}
	for _, m.keys = range [][]int{nil, {5, 6, 7, 20}} {
		expectTrims(t, "sizes", m, upTo(0, 10))
	}
	x, _ := cut.Trim(m.rec(), 2, 3)
	if y, z := seek.At(x, 0), seek.At(x, 1); y.W != 1 || y.H != 1 || z.W != 60 || z.H != 60 {
		t.Error(y, z)
	}
}

// Events that do nothing have times as the others do, are left where they stand, and count for keys.
func TestTrimEventsThatDoNothing(t *testing.T) {
	m := model{start: blank(5, 2)}
	for i := range 24 {
		e := api.Event{Time: i / 3, Kind: []int{api.In, api.Mark, api.Out}[i%3], Data: string(rune('a' + i))}
		if i%7 == 0 {
			e = api.Event{Time: i / 3, Kind: api.Out}
		}
		m.events = append(m.events, e)
	}
	for _, m.keys = range [][]int{nil, upTo(0, 24), {2, 3}} {
		expectTrims(t, "nothing", m, upTo(0, 9))
	}
	for i := range m.events {
		m.events[i].Kind, m.events[i].Data = api.In, strings.Repeat("k", api.MaxData)
	}
	m.keys = nil
	expectTrims(t, "nothing at all", m, upTo(0, 9))
}

// Trimmed again it is as if it had been trimmed once.
func TestTrimAgain(t *testing.T) {
	d := dice(6)
	for n := range 12 {
		m := chance(&d, n*3, 0, 0, 1, 2)
		end := lastTime(m.events) + 2
		for range 20 {
			a := d.upTo(end)
			b := a + d.upTo(end-a)
			c := d.upTo(b - a + 1)
			e := c + d.upTo(end)
			first, _ := cut.Trim(m.rec(), a, b)
			again, no := cut.Trim(first, c, e)
			if no != api.OK {
				t.Fatal(int(no))
			}
			expectRec(t, fmt.Sprint("again ", a, b, c, e), again, m.trimmed(a, min(b, a+e)).trimmed(c, e))
			expectRec(t, fmt.Sprint("at once ", a, b, c, e), again, m.trimmed(a+c, min(b, a+e)))
		}
	}
}

// Recordings that writers, Recover, Rescue, Decode and Keyed have.
func TestTrimOfTheLog(t *testing.T) {
	for _, n := range []int{0, 1, 8, 9, 20} {
		m := letters(n, 3).keyed(8)
		s := file.New(1 << 20)
		start, _ := state.Decode([]byte(m.start))
		w, e := log.Create(s, "a", start)
		for _, x := range m.events {
			e = max(e, w.Add(x))
		}
		e = max(e, w.Finish())
		b, e2 := s.Read("a")
		decoded, e3 := log.Decode(b)
		rescued, _, e4 := log.Rescue(b)
		recovered, e5 := log.Recover(s, "a")
		if max(e, e2, e3, e4, e5) != api.OK {
			t.Fatal(e, e2, e3, e4, e5)
		}
		for _, r := range []*log.Rec{&w.Rec, decoded, rescued, recovered, cut.Keyed(decoded, 3)} {
			for _, c := range [][2]int{{0, 0}, {0, 100}, {9, 20}, {10, 30}, {15, 1000}, {1000, 1001}} {
				x, e := cut.Trim(r, c[0], c[1])
				if e != api.OK {
					t.Fatal(int(e))
				}
				expectRec(t, fmt.Sprint(c), x, m.trimmed(c[0], c[1]))
			}
		}
	}
}
