package cut_test

import (
	"fmt"
	"math"
	"slices"
	"testing"

	"flipbook/api"
	"flipbook/cut"
	"flipbook/log"
	"flipbook/seek"
	"flipbook/state"
)

// outs: a recording of letters at times.
func outs(start string, l ...any) model {
	m := model{start: start}
	for i := 0; i < len(l); i += 2 {
		m.events = append(m.events, api.Event{Time: l[i].(int), Data: l[i+1].(string)})
	}
	return m
}

// The words as literals.
func TestJoinSmall(t *testing.T) {
	r := outs(written(5, 1, ">"), 0, "a", 7, "b", 7, "c")
	s := outs(written(3, 2, "no part"), 0, "d", 0, "e", 2, "f")
	for _, c := range []struct {
		r, s   model
		events string
		shown  string
	}{
		{r, s, "0 a, 7 b, 7 c, 7 d, 7 e, 9 f", "defbc|"},
		{s, r, "0 d, 0 e, 2 f, 2 a, 9 b, 9 c", "fab|c|"},
		{r, r, "0 a, 7 b, 7 c, 7 a, 14 b, 14 c", "abc|"},
		{r, outs(s.start), "0 a, 7 b, 7 c", ">abc|"},
		{outs(r.start), s, "0 d, 0 e, 2 f", ">def|"},
		{outs(r.start), outs(s.start), "", ">|"},
		{outs(r.start, 3, "\x1b[2J"), outs(s.start, 3, "\r*"), "3 \x1b[2J, 6 \r*", "*|"},
		{outs(r.start, 0, "x"), outs(s.start, 0, "y"), "0 x, 0 y", ">xy|"},
	} {
		x, e := cut.Join(c.r.rec(), c.s.rec())
		if e != api.OK || told(x.Events) != c.events || string(x.Start) != c.r.start {
			t.Errorf("%q, want %q, %d", told(x.Events), c.events, int(e))
		}
		expectRec(t, c.events, x, c.r.joined(c.s))
	}
	x, _ := cut.Join(outs(r.start, 0, "a", 7, "b").rec(), s.rec())
	for at, want := range map[int]string{-1: ">|", 0: ">a|", 6: ">a|", 7: ">abde|", 8: ">abde|", 9: "fabde|"} {
		if got := shown(x, at); at < 9 && got != want {
			t.Errorf("at %d: %q, want %q", at, got, want)
		}
	}
}

// Last of both together, up to the end of time and past it.
func TestJoinEndOfTime(t *testing.T) {
	const end = api.MaxTime
	one := func(at int) model { return outs(blank(3, 1), 0, "a", at, "b") }
	for _, c := range []struct {
		r, s int
		want api.Errno
	}{
		{0, 0, api.OK},
		{0, end - 1, api.OK},
		{end - 1, 0, api.OK},
		{1, end - 2, api.OK},
		{end - 2, 1, api.OK},
		{end / 2, end/2 - 1, api.OK},
		{end/2 - 1, end / 2, api.OK},
		{1, end - 1, api.ErrOver},
		{end - 1, 1, api.ErrOver},
		{end / 2, end / 2, api.ErrOver},
		{end / 2, end/2 + 1, api.ErrOver},
		{2, end - 1, api.ErrOver},
		{end - 2, 2, api.ErrOver},
		{end - 60, 61, api.ErrOver},
		{end - 1, end - 1, api.ErrOver},
		{end - 2, end - 1, api.ErrOver},
	} {
		r, s := one(c.r).rec(), one(c.s).rec()
		x, e := cut.Join(r, s)
		if c.want != api.OK {
			expectError(t, fmt.Sprint(c), x, e, c.want)
		} else if e != api.OK {
			t.Errorf("%v: %d", c, int(e))
		} else {
			expectRec(t, fmt.Sprint(c), x, one(c.r).joined(one(c.s)))
			expectBytes(t, fmt.Sprint(c), x, one(c.r).joined(one(c.s)))
		}
		expectRec(t, "as it was", r, one(c.r))
		expectRec(t, "as it was", s, one(c.s))
	}
	late, none := one(end-1).rec(), outs(blank(2, 2)).rec()
	x, e := cut.Join(late, none)
	y, f := cut.Join(none, late)
	if max(e, f) != api.OK || x.Last() != end-1 || y.Last() != end-1 {
		t.Error(x, int(e), y, int(f))
	}
	x, e = cut.Join(late, late)
	expectError(t, "with itself", x, e, api.ErrOver)
}

// Each number of events that keys hang on, and what Encode and Decode tell of it.
func TestJoinKeys(t *testing.T) {
	counts := []int{0, 1, 7, 8, 9, 15, 16, 17}
	for _, n := range counts {
		for _, k := range counts {
			r, s := letters(n, 2), letters(k, 3)
			s.start = written(4, 2, "other")
			for _, r.keys = range [][]int{nil, {0}, r.keyed(8).keys, upTo(0, n)} {
				for _, s.keys = range [][]int{nil, {0}, s.keyed(8).keys, upTo(0, k)} {
					x, e := cut.Join(r.rec(), s.rec())
					if e != api.OK {
						t.Fatal(n, k, int(e))
					}
					expectRec(t, fmt.Sprint(n, k), x, r.joined(s))
				}
			}
			x, _ := cut.Join(r.rec(), s.rec())
			expectBytes(t, fmt.Sprint(n, k), x, r.joined(s))
			if want := (n + k) / 8; len(x.Keys) != want || want > 0 && x.Keys[want-1].After != want*8 {
				t.Errorf("%d and %d: %v", n, k, afters(x))
			}
		}
	}
}

// P16.1, P5: recordings that look like chance: the events of both, one behind the other, and what they lead to.
func TestJoinOfChance(t *testing.T) {
	d := dice(9)
	for range 150 {
		r, s := chance(&d, d.upTo(20), 0, 0, 1, 3, 1<<40), chance(&d, d.upTo(20), 0, 0, 1, 3, 1<<40)
		a, b := r.rec(), s.rec()
		x, e := cut.Join(a, b)
		if e != api.OK {
			t.Fatal(int(e))
		}
		both := r.joined(s)
		expectRec(t, "chance", x, both)
		expectBytes(t, "chance", x, both)
		if !slices.Equal(x.Events[:len(r.events)], a.Events) || len(x.Events) != len(a.Events)+len(b.Events) {
			t.Fatal("the first ones are others")
		}
		for i, e := range x.Events[len(a.Events):] {
			e.Time -= a.Last()
			if e != b.Events[i] {
				t.Fatal("the others are others", i, e)
			}
		}
		states := both.states()
		for _, at := range both.times() {
			expectShown(t, "at", seek.At(x, at), states[both.until(at)])
		}
		expectRec(t, "as it was", a, r)
		expectRec(t, "as it was", b, s)
	}
}

// A sequence, and a rune, that the first one ends within goes on in the second one.
func TestJoinWithinWhatGoesOn(t *testing.T) {
	first, second, third := outs(blank(4, 2), 1, "a\x1b[3"), outs(written(4, 2, "q"), 1, "1mb\xE4"), outs(blank(1, 1), 0, "\xB8\xAD")
	x, _ := cut.Join(first.rec(), second.rec())
	y, e := cut.Join(x, third.rec())
	now := seek.At(y, 2)
	if e != api.OK || screen(now) != "ab中||" || now.At(1, 0).Style.Fore != 2 {
		t.Errorf("%v", now)
	}
}

// With itself, again and again, and with what was trimmed of it.
func TestJoinWithItself(t *testing.T) {
	d := dice(12)
	for n := range 12 {
		m := chance(&d, n, 0, 1, 2)
		r := m.rec()
		x, e := cut.Join(r, r)
		expectRec(t, "with itself", x, m.joined(m))
		y, f := cut.Join(x, x)
		expectRec(t, "twice", y, m.joined(m).joined(m.joined(m)))
		z, g := cut.Join(r, x)
		expectRec(t, "with the joined one", z, m.joined(m.joined(m)))
		if max(e, f, g) != api.OK {
			t.Error(int(e), int(f), int(g))
		}
		expectRec(t, "as it was", r, m)
		for a := range lastTime(m.events) + 1 {
			first, _ := cut.Trim(r, 0, a)
			then, _ := cut.Trim(r, a, lastTime(m.events))
			x, e := cut.Join(first, then)
			if e != api.OK {
				t.Fatal(int(e))
			}
			expectRec(t, "of parts", x, m.trimmed(0, a).joined(m.trimmed(a, lastTime(m.events))))
			// What is parted and joined leads to the same terminal in the end, though idle time ahead of a is gone.
			expectShown(t, "of parts", seek.At(x, math.MaxInt), m.states()[n])
		}
	}
}

// The beginning of the second one plays no part, not even one that is no terminal's.
func TestJoinAnyBeginning(t *testing.T) {
	r, s := letters(5, 2), letters(9, 1)
	for _, start := range []string{blank(1, 1), blank(60, 60), written(7, 3, "xyz\x1b[?1049h\x1b["), "", "no terminal's"} {
		other := s.rec()
		other.Start = []byte(start)
		x, e := cut.Join(r.rec(), other)
		if e != api.OK {
			t.Fatal(int(e))
		}
		expectRec(t, start, x, r.joined(s))
	}
}

// spoil changes all that a recording has, and what stands in the spare room of its lists.
func spoil(r *log.Rec) {
	for i := range r.Events {
		r.Events[i] = api.Event{Time: 77, Kind: api.Mark, Data: "spoilt"}
	}
	for _, k := range r.Keys {
		clear(k.State)
		_ = append(k.State, "spoilt"...)
	}
	for i := range r.Keys {
		r.Keys[i] = log.Key{After: 77}
	}
	clear(r.Start)
	_ = append(r.Start, "spoilt"...)
	_ = append(r.Events, api.Event{Time: 78}, api.Event{Time: 79})
	_ = append(r.Keys, log.Key{After: 78})
}

// calls: each of the package's, of two recordings, and what it answers.
func calls(r, s model) []struct {
	call func(a, b *log.Rec) *log.Rec
	want model
} {
	return []struct {
		call func(a, b *log.Rec) *log.Rec
		want model
	}{
		{func(a, b *log.Rec) *log.Rec { return cut.Keyed(a, 2) }, r.keyed(2)},
		{func(a, b *log.Rec) *log.Rec { return cut.Keyed(a, 0) }, r.keyed(0)},
		{func(a, b *log.Rec) *log.Rec { x, _ := cut.Trim(a, 0, math.MaxInt); return x }, r.trimmed(0, math.MaxInt)},
		{func(a, b *log.Rec) *log.Rec { x, _ := cut.Trim(a, 20, 60); return x }, r.trimmed(20, 60)},
		{func(a, b *log.Rec) *log.Rec { x, _ := cut.Trim(a, 999, 999); return x }, r.trimmed(999, 999)},
		{func(a, b *log.Rec) *log.Rec { x, _ := cut.Join(a, b); return x }, r.joined(s)},
		{func(a, b *log.Rec) *log.Rec { x, _ := cut.Join(b, a); return x }, s.joined(r)},
		{func(a, b *log.Rec) *log.Rec { x, _ := cut.Join(a, a); return x }, r.joined(r)},
	}
}

// What goes out shares nothing with what goes in, nor with what goes out next.
func TestSharesNothing(t *testing.T) {
	for _, n := range []int{0, 3, 9, 20} {
		r, s := letters(n, 1).keyed(3), letters(20-n, 2).keyed(1)
		for i, c := range calls(r, s) {
			what := fmt.Sprint("call ", i, " of ", n)
			a, b := r.rec(), s.rec()
			a.Events, b.Events = slices.Grow(a.Events, 9), slices.Grow(b.Events, 9)
			x, y := c.call(a, b), c.call(a, b)
			spoil(x)
			expectRec(t, what+": the other one", y, c.want)
			expectRec(t, what+": the first one", a, r)
			expectRec(t, what+": the second one", b, s)
			expectRec(t, what+": the next one", c.call(a, b), c.want)
			spoil(a)
			spoil(b)
			expectRec(t, what+": behind them", y, c.want)
		}
	}
}

// No two lists of an answer are one: here the beginning and all keys have the same bytes.
func TestSharesNothingWithin(t *testing.T) {
	m := model{start: written(3, 1, "x")}
	for i := range 20 {
		m.events = append(m.events, api.Event{Time: i, Kind: api.In, Data: "k"})
	}
	for i, c := range calls(m, m) {
		r := c.call(m.rec(), m.rec())
		lists := [][]byte{r.Start}
		for _, k := range r.Keys {
			lists = append(lists, k.State)
		}
		for j, l := range lists {
			if string(l) != m.start {
				t.Fatal(i, j)
			}
			clear(l)
			for _, other := range lists[j+1:] {
				if string(other) != m.start {
					t.Fatalf("call %d: two lists are one", i)
				}
			}
		}
	}
}

// A writer that goes on behind what was made of its recording changes nothing of that, nor the other way.
func TestSharesNothingWithWriters(t *testing.T) {
	m := letters(6, 1)
	w := log.Writer{Rec: *m.rec()}
	w.Events = slices.Grow(w.Events, 4)
	x := cut.Keyed(&w.Rec, 2)
	y, _ := cut.Trim(&w.Rec, 10, 1000)
	z, _ := cut.Join(&w.Rec, &w.Rec)
	w.Events = append(w.Events, api.Event{Time: 500, Data: "w"})
	x.Events = append(x.Events, api.Event{Time: 501, Data: "x"})
	y.Events = append(y.Events, api.Event{Time: 502, Data: "y"})
	z.Events = append(z.Events, api.Event{Time: 503, Data: "z"})
	if w.Events[6].Data != "w" || x.Events[6].Data != "x" || y.Events[5].Data != "y" || z.Events[12].Data != "z" {
		t.Error("lists are shared")
	}
}

// P0: the same calls have the same outcome, whatever the numbers.
func TestP0(t *testing.T) {
	d := dice(21)
	numbers := []int{math.MinInt, math.MinInt + 1, -api.MaxTime, -1 << 32, -9, -1, 0, 1, 2, 8, 9, 1 << 32, api.MaxTime - 1, api.MaxTime, math.MaxInt - 1, math.MaxInt}
	for n := range 10 {
		m := chance(&d, n*2, 0, 1, 5, 1<<57)
		r := m.rec()
		for _, a := range numbers {
			expectRec(t, fmt.Sprint("every ", a), cut.Keyed(r, a), m.keyed(a))
			expectRec(t, fmt.Sprint("every ", a), cut.Keyed(r, a), m.keyed(a))
			for _, b := range numbers {
				x, e := cut.Trim(r, a, b)
				y, f := cut.Trim(r, a, b)
				if a < 0 || b < a {
					expectError(t, fmt.Sprint(a, b), x, e, api.ErrArg)
					expectError(t, fmt.Sprint(a, b), y, f, api.ErrArg)
					continue
				}
				if max(e, f) != api.OK {
					t.Fatal(a, b, int(e), int(f))
				}
				expectRec(t, fmt.Sprint(a, b), x, m.trimmed(a, b))
				expectRec(t, fmt.Sprint(a, b), y, m.trimmed(a, b))
			}
		}
		expectRec(t, "as it was", r, m)
	}
}

// No call panics, also with recordings of which nothing is said: of a beginning that is no terminal's, of events and keys that may not be, or of times that fall.
func TestP0OfNoRecordings(t *testing.T) {
	good := state.Encode(seek.At(letters(1, 1).rec(), 0))
	wrong := []api.Event{{Time: math.MaxInt, Kind: -1}, {Time: math.MinInt, Kind: api.Size, W: math.MinInt, H: math.MaxInt}, {Time: 3, Kind: 9, Data: "x"}, {Time: -3, Kind: api.Size}}
	for _, start := range [][]byte{nil, {}, []byte("no terminal's"), good} {
		for _, l := range [][]api.Event{nil, letters(9, 2).events, wrong} {
			for _, k := range [][]log.Key{nil, {{After: -1}, {After: 100}, {After: 0}}, {{After: 1, State: []byte("no")}}} {
				r, s := &log.Rec{Start: start, Events: l, Keys: k}, letters(9, 2).rec()
				for _, n := range []int{math.MinInt, -1, 0, 1, 3, 10, math.MaxInt} {
					cut.Keyed(r, n)
					cut.Trim(r, n, n)
					cut.Trim(r, n, math.MaxInt)
				}
				cut.Join(r, s)
				cut.Join(s, r)
				cut.Join(r, r)
			}
		}
	}
}
