package event_test

import (
	"bytes"
	"math"
	"slices"
	"testing"

	"flipbook/api"
	"flipbook/event"
	"flipbook/vary"
)

// dice are numbers that look like chance, the same ones each time.
type dice uint64

func (d *dice) upTo(n int) int {
	*d = *d*6364136223846793005 + 1442695040888963407
	return int(uint64(*d) >> 33 % uint64(n))
}

func pick[T any](d *dice, l ...T) T { return l[d.upTo(len(l))] }

// may: is an event right, by the chapter's words?
func may(e api.Event) bool {
	timely := e.Time >= 0 && e.Time < 1<<62
	if e.Kind == 2 {
		return timely && e.Data == "" && 1 <= min(e.W, e.H) && max(e.W, e.H) <= 1000
	}
	return timely && (e.Kind == 0 || e.Kind == 1 || e.Kind == 3) && len(e.Data) <= 400 && e.W == 0 && e.H == 0
}

// number: one's bytes, by layer 1's words.
func number(n int) string {
	if n < 128 {
		return string([]byte{byte(n)})
	}
	return string([]byte{byte(n&127 | 128)}) + number(n>>7)
}

// bytesOf: an event's bytes behind a time, by the chapter's words.
func bytesOf(from int, e api.Event) string {
	s := number(e.Kind) + number(e.Time-from)
	if e.Kind == api.Size {
		return s + number(e.W) + number(e.H)
	}
	return s + number(len(e.Data)) + e.Data
}

// leads: the number below 2^62 that bytes begin with, and what is behind it; false: they begin with none.
func leads(s string) (int, string, bool) {
	n := 0
	for i := 0; i < len(s) && i < 9; i++ {
		n |= int(s[i]&127) << (7 * i)
		if s[i] < 128 {
			return n, s[i+1:], n < 1<<62 && number(n) == s[:i+1]
		}
	}
	return 0, "", false
}

// next: the right event whose bytes behind a time these begin with, and how many they are, by the chapter's words.
func next(s string, from int) (api.Event, int, bool) {
	kind, rest, one := leads(s)
	later, rest, two := leads(rest)
	first, rest, three := leads(rest)
	e := api.Event{Kind: kind, Time: from + later}
	if kind == api.Size {
		e.W = first
		e.H, rest, three = leads(rest)
	} else if first <= len(rest) {
		e.Data = rest[:first]
	}
	if !one || !two || !three || !may(e) {
		return api.Event{}, 0, false
	}
	// Whatever was read: it's that event if just its bytes stand there.
	own := bytesOf(from, e)
	if len(own) > len(s) || s[:len(own)] != own {
		return api.Event{}, 0, false
	}
	return e, len(own), true
}

// expectTaken: Take of these bytes is what the chapter's words say, and the reader is behind the event.
func expectTaken(t *testing.T, b []byte, from int) bool {
	t.Helper()
	want, n, is := next(string(b), from)
	r := vary.Of(b)
	e, ok := event.Take(r, from)
	if e != want || ok != is {
		t.Fatalf("% X behind %d: %v, %v, want %v, %v", b, from, e, ok, want, is)
	}
	if !ok {
		if e, ok := event.Take(r, from); ok || e != (api.Event{}) {
			t.Fatalf("% X behind %d: behind a wrong event: %v, %v", b, from, e, ok)
		}
		return false
	}
	for _, c := range b[n:] {
		if c >= 128 {
			return true
		}
		if got := r.Num(0); got != int(c) || !r.Good() {
			t.Fatalf("% X behind %d: behind the event %d, want %d", b, from, got, c)
		}
	}
	if !r.Done() {
		t.Fatalf("% X behind %d: bytes are left behind the event's %d", b, from, n)
	}
	return true
}

// edges: events at the edges, right ones and others.
func edges() []api.Event {
	var l []api.Event
	for _, time := range []int{math.MinInt, -1, 0, 1, 127, 128, api.MaxTime - 1, api.MaxTime, math.MaxInt} {
		for _, kind := range []int{math.MinInt, -1, 0, 1, 2, 3, 4, math.MaxInt} {
			for _, data := range []string{"", "x", "\x00\xFF", filled(127), filled(128), filled(400), filled(401)} {
				for _, w := range []int{math.MinInt, -1, 0, 1, 127, 128, 1000, 1001, math.MaxInt} {
					for _, h := range []int{-1, 0, 1, 1000, 1001} {
						l = append(l, api.Event{Time: time, Kind: kind, Data: data, W: w, H: h})
					}
				}
			}
		}
	}
	return l
}

func rightOnes(l []api.Event) []api.Event {
	return slices.DeleteFunc(l, func(e api.Event) bool { return !may(e) })
}

func TestRightAtAllEdges(t *testing.T) {
	for _, e := range edges() {
		if got := event.Right(e); got != may(e) {
			t.Fatalf("%v: %v", e, got)
		}
		if got := event.List(e); got != may(e) {
			t.Fatalf("a list of %v: %v", e, got)
		}
	}
}

func TestListsOfTwoAndThree(t *testing.T) {
	l := []api.Event{{}, {Time: 1}, {Time: 2, Kind: api.Size, W: 1, H: 1}, {Time: 2, Kind: api.Mark}, {Time: api.MaxTime - 1}, {Time: -1}, {Time: 1, Kind: 4}, {Time: api.MaxTime}}
	for _, a := range l {
		for _, b := range l {
			two := may(a) && may(b) && a.Time <= b.Time
			if got := event.List(a, b); got != two {
				t.Fatalf("%v, %v: %v", a, b, got)
			}
			for _, c := range l {
				three := two && may(c) && b.Time <= c.Time
				if got := event.List(a, b, c); got != three {
					t.Fatalf("%v, %v, %v: %v", a, b, c, got)
				}
			}
		}
	}
}

// froms: times that may be ahead of one.
func froms(time int) []int {
	l := []int{0, time}
	for _, x := range []int{1, time / 2, time - 1, time - 127, time - 128} {
		if x >= 0 && x <= time {
			l = append(l, x)
		}
	}
	return l
}

func TestEachEventComesBack(t *testing.T) {
	for _, e := range rightOnes(edges()) {
		for _, from := range froms(e.Time) {
			b := event.Put(nil, from, e)
			if string(b) != bytesOf(from, e) {
				t.Fatalf("%v behind %d: % X", e, from, b)
			}
			r := vary.Of(b)
			if back, ok := event.Take(r, from); back != e || !ok || !r.Done() {
				t.Fatalf("%v behind %d: back as %v, %v", e, from, back, ok)
			}
		}
	}
}

// putAll: a list's bytes: each event's behind the time of that ahead.
func putAll(l []api.Event) []byte {
	var b []byte
	from := 0
	for _, e := range l {
		b = event.Put(b, from, e)
		from = e.Time
	}
	return b
}

func takeAll(b []byte) ([]api.Event, bool) {
	var l []api.Event
	from := 0
	r := vary.Of(b)
	for !r.Done() {
		e, ok := event.Take(r, from)
		if !ok {
			return nil, false
		}
		l = append(l, e)
		from = e.Time
	}
	return l, true
}

func expectBack(t *testing.T, l []api.Event) {
	t.Helper()
	b := putAll(l)
	back, ok := takeAll(b)
	if !ok || !slices.Equal(back, l) || !event.List(back...) {
		t.Fatalf("%v: back as %v, %v, of % X", l, back, ok, b)
	}
}

func TestListsComeBack(t *testing.T) {
	some := []api.Event{
		{}, {Data: "x"}, {Kind: api.Mark}, {Time: 1, Kind: api.In, Data: "\x02\x00\x01\x01"}, {Time: 1, Kind: api.Size, W: 1, H: 1000},
		{Time: 2, Kind: api.Size, W: 1000, H: 128}, {Time: 130, Data: filled(400)}, {Time: api.MaxTime - 1, Kind: api.Mark, Data: "\xFF"}, {Time: api.MaxTime - 1, Kind: api.Size, W: 2, H: 3},
	}
	expectBack(t, nil)
	for i, a := range some {
		expectBack(t, []api.Event{a})
		expectBack(t, []api.Event{a, a, a})
		for j, b := range some[i:] {
			expectBack(t, []api.Event{a, b})
			for _, c := range some[i+j:] {
				expectBack(t, []api.Event{a, b, c})
			}
		}
	}
}

// chance: a right event, no earlier than a time.
func chance(d *dice, from int) api.Event {
	e := api.Event{Time: min(api.MaxTime-1, from+pick(d, 0, 0, 1, 127, 128, 1<<20, 1<<61)), Kind: d.upTo(4)}
	if e.Kind == api.Size {
		e.W, e.H = pick(d, 1, 80, 127, 128, 1000), pick(d, 1, 24, 127, 128, 1000)
		return e
	}
	b := make([]byte, pick(d, 0, 1, 2, 9, 127, 128, 399, 400))
	for i := range b {
		b[i] = byte(d.upTo(256))
	}
	e.Data = string(b)
	return e
}

func chanceList(d *dice, n int) []api.Event {
	var l []api.Event
	from := 0
	for range n {
		l = append(l, chance(d, from))
		from = l[len(l)-1].Time
	}
	return l
}

func TestListsThatLookLikeChanceComeBack(t *testing.T) {
	d := dice(1)
	for range 300 {
		l := chanceList(&d, d.upTo(60))
		if !event.List(l...) {
			t.Fatalf("not right: %v", l)
		}
		expectBack(t, l)
	}
}

// All short rows of some bytes: of events, of what is cut off, and of what is none.
func TestTakeOfAllShortBytes(t *testing.T) {
	some := []byte{0, 1, 2, 3, 4, 'x', 0x7F, 0x80, 0x81, 0xE8, 0xFF}
	are := 0
	for n := range 6 {
		at := make([]int, n)
		b := make([]byte, n)
		for more := true; more; {
			for i, x := range at {
				b[i] = some[x]
			}
			if expectTaken(t, b, 5) {
				are++
			}
			more = false
			for i := range at {
				if at[i]++; at[i] < len(some) {
					more = true
					break
				}
				at[i] = 0
			}
		}
	}
	if are < 1000 {
		t.Errorf("no more than %d of them begin with an event's bytes", are)
	}
}

func TestTakeWithEachByteChanged(t *testing.T) {
	for _, c := range rows() {
		b := []byte(c.bytes)
		for i := range min(len(b), 14) {
			was := b[i]
			for x := range 256 {
				b[i] = byte(x)
				expectTaken(t, b, c.from)
			}
			b[i] = was
		}
	}
}

func TestTakeOfBytesThatLookLikeChance(t *testing.T) {
	d := dice(2)
	for range 20000 {
		from := pick(&d, 0, 1, 5, 1<<40, api.MaxTime-129, api.MaxTime-2, api.MaxTime-1)
		b := []byte(number(d.upTo(5)) + number(pick(&d, 0, 1, 127, 128, 300, 1<<40, api.MaxTime-1, api.MaxTime, math.MaxInt)) + number(pick(&d, 0, 1, 2, 400, 401, 1000, 1001)) + number(pick(&d, 0, 1, 999, 1000, 1001)))
		b = append(b, filled(pick(&d, 0, 1, 398, 400))...)
		if d.upTo(2) == 0 {
			b[d.upTo(min(len(b), 12))] ^= byte(1 << d.upTo(8))
		}
		expectTaken(t, b[:len(b)-d.upTo(min(3, len(b)))], from)
	}
}

func TestUntilAndShiftOfLists(t *testing.T) {
	d := dice(3)
	for range 300 {
		l := chanceList(&d, d.upTo(20))
		times := []int{math.MinInt, -1, 0, api.MaxTime, math.MaxInt}
		for _, e := range l {
			times = append(times, e.Time-1, e.Time, e.Time+1)
		}
		for _, time := range times {
			n := 0
			for _, e := range l {
				if e.Time <= time {
					n++
				}
			}
			if got := event.Until(l, time); got != n {
				t.Fatalf("%v until %d: %d, want %d", l, time, got, n)
			}
		}
		by := pick(&d, 0, 1, -1, 300, -300, api.MaxTime, -api.MaxTime)
		later := event.Shift(l, by)
		for i, e := range l {
			e.Time += by
			if later[i] != e {
				t.Fatalf("%v by %d: %v", l, by, later)
			}
		}
		if len(later) != len(l) || !slices.Equal(event.Shift(later, -by), l) {
			t.Fatalf("%v by %d: %v", l, by, later)
		}
	}
}

// far: numbers of each size, most of which nothing is promised of, but that calls end and don't panic.
func far() []int {
	return []int{math.MinInt, math.MinInt + 1, -api.MaxTime, -1, 0, 1, 2, 1000, 1001, api.MaxTime - 1, api.MaxTime, math.MaxInt - 1, math.MaxInt}
}

// The same calls have the same outcome, whatever they are handed, and leave what they are handed as it is.
func TestCallsEndAndAreTheSame(t *testing.T) {
	d := dice(4)
	for range 20000 {
		e := api.Event{Time: pick(&d, far()...), Kind: pick(&d, append(far(), 2, 3, 4)...), Data: filled(pick(&d, 0, 1, 400, 401)), W: pick(&d, far()...), H: pick(&d, far()...)}
		from := pick(&d, far()...)
		b := event.Put([]byte("ahead"), from, e)
		if !bytes.Equal(b, event.Put([]byte("ahead"), from, e)) || !bytes.HasPrefix(b, []byte("ahead")) {
			t.Fatalf("%v behind %d: % X", e, from, b)
		}
		was := bytes.Clone(b)
		x, ok := event.Take(vary.Of(b[5:]), from)
		y, is := event.Take(vary.Of(b[5:]), from)
		if x != y || ok != is || ok && !event.Right(x) || !ok && x != (api.Event{}) || !bytes.Equal(b, was) {
			t.Fatalf("% X behind %d: %v, %v and %v, %v", b[5:], from, x, ok, y, is)
		}
		l := []api.Event{e, {Time: from}, x}
		if event.List(l...) != event.List(l...) || event.Until(l, from) != event.Until(l, from) || !slices.Equal(event.Shift(l, from), event.Shift(l, from)) {
			t.Fatalf("%v and %d: not the same", l, from)
		}
		if n := event.Until(l, from); n < 0 || n > 3 {
			t.Fatalf("%v until %d: %d", l, from, n)
		}
	}
}
