package play_test

import (
	"math"
	"slices"
	"strings"
	"testing"

	"flipbook/api"
	"flipbook/play"
)

const (
	last = api.MaxTime - 1
	half = 1 << 61
)

// texts: what events tell, one behind the other.
func texts(l []api.Event) string {
	s := ""
	for _, e := range l {
		s += e.Data
	}
	return s
}

// lettered: events at these times with the texts a, b, c and so on.
func lettered(times ...int) []api.Event {
	var l []api.Event
	for i, time := range times {
		l = append(l, api.Event{Time: time, Data: string(rune('a' + i))})
	}
	return l
}

// begun: a player that must be there.
func begun(t *testing.T, l []api.Event, start, p, q int) *play.Player {
	t.Helper()
	x, e := play.New(l, start, p, q)
	if e != api.OK || x == nil {
		t.Fatalf("New from %d on at %d/%d: %v, %v", start, p, q, x, e)
	}
	return x
}

// expect: what a player tells of itself.
func expect(t *testing.T, what string, x *play.Player, now, left int, paused bool) {
	t.Helper()
	// Each is asked twice: to be asked changes nothing.
	for range 2 {
		if x.Now() != now || x.Left() != left || x.Paused() != paused {
			t.Fatalf("%s: now %d, left %d, paused %v; want %d, %d, %v", what, x.Now(), x.Left(), x.Paused(), now, left, paused)
		}
	}
}

func TestNew(t *testing.T) {
	times := []int{0, 0, 5, 5, 6, last}
	for _, c := range []struct {
		start, left int
	}{
		{0, 4}, {1, 4}, {4, 4}, {5, 2}, {6, 1}, {7, 1}, {half, 1}, {last - 1, 1}, {last, 0},
	} {
		for _, n := range []int{1, 2, 999, api.MaxSpeed} {
			x := begun(t, lettered(times...), c.start, n, 1)
			expect(t, "new", x, c.start, c.left, false)
			// Those that are no later are told already: no call tells them.
			if got := texts(x.Tick(0)); got != "" {
				t.Fatalf("from %d on: told %q at once", c.start, got)
			}
			expect(t, "behind a tick of nothing", x, c.start, c.left, false)
			if got, want := texts(x.Tick(math.MaxInt)), "abcdef"[6-c.left:]; got != want {
				t.Fatalf("from %d on: told %q, want %q", c.start, got, want)
			}
			begun(t, nil, c.start, 1, n)
		}
	}
}

func TestNewOfFewEvents(t *testing.T) {
	for _, c := range []struct {
		name  string
		l     []api.Event
		start int
		left  int
	}{
		{"none", nil, 0, 0},
		{"an empty list", []api.Event{}, 7, 0},
		{"one ahead of the start", lettered(6), 7, 0},
		{"one at the start", lettered(7), 7, 0},
		{"one behind the start", lettered(8), 7, 1},
		{"one at 0 from 0 on", lettered(0), 0, 0},
		{"one at 1 from 0 on", lettered(1), 0, 1},
		{"one at MaxTime - 1 from there on", lettered(last), last, 0},
		{"one at MaxTime - 1 from just ahead on", lettered(last), last - 1, 1},
		{"three of one time ahead of it", lettered(7, 7, 7), 6, 3},
		{"three of one time at it", lettered(7, 7, 7), 7, 0},
		{"three of one time behind it", lettered(7, 7, 7), 8, 0},
		{"ahead of it, at it and behind it", lettered(6, 7, 8), 7, 1},
	} {
		expect(t, c.name, begun(t, c.l, c.start, 1, 1), c.start, c.left, false)
	}
}

// wrong is a list that isn't right.
type wrong struct {
	name string
	l    []api.Event
}

func wrongs() []wrong {
	return []wrong{
		{"a time that falls by 1", lettered(5, 4)},
		{"a time that falls by 1 behind others", lettered(0, 5, 6, 5)},
		{"a time that falls to 0", lettered(last, 0)},
		{"a time below 0", lettered(-1)},
		{"MaxTime", lettered(api.MaxTime)},
		{"past MaxTime, behind others", lettered(1, math.MaxInt)},
		{"a kind below 0", []api.Event{{Kind: -1}}},
		{"a kind of 4", []api.Event{{}, {Kind: 4}}},
		{"a Size without sides", []api.Event{{Kind: api.Size}}},
		{"a Size of 1001 columns", []api.Event{{Kind: api.Size, W: 1001, H: 1}, {}}},
		{"a Mark with a side", []api.Event{{Kind: api.Mark, W: 1}}},
		{"too long a text", []api.Event{{Data: strings.Repeat("d", api.MaxData+1)}}},
	}
}

func TestNewIsRefused(t *testing.T) {
	starts := []int{math.MinInt, -api.MaxTime, -1, api.MaxTime, api.MaxTime + 1, math.MaxInt}
	speeds := []int{math.MinInt, -1000, -1, 0, api.MaxSpeed + 1, 1 << 32, api.MaxTime, math.MaxInt}
	refused := func(l []api.Event, start, p, q int) {
		t.Helper()
		was := slices.Clone(l)
		if x, e := play.New(l, start, p, q); x != nil || e != api.ErrArg {
			t.Errorf("New of %v from %d on at %d/%d: %v, %v", l, start, p, q, x, e)
		}
		if !slices.Equal(l, was) {
			t.Errorf("%v became %v", was, l)
		}
	}
	for _, l := range [][]api.Event{nil, lettered(5), lettered(0, 5, 5, last)} {
		for _, start := range starts {
			refused(l, start, 1, 1)
		}
		for _, n := range speeds {
			for _, start := range []int{0, last} {
				refused(l, start, n, 1)
				refused(l, start, 1, n)
				refused(l, start, n, n)
				refused(l, start, n, api.MaxSpeed)
				refused(l, start, api.MaxSpeed, n)
			}
		}
	}
	for _, w := range wrongs() {
		for _, start := range append([]int{0, 5, 6, half, last}, starts...) {
			for _, n := range append([]int{1, api.MaxSpeed}, speeds...) {
				refused(w.l, start, n, 1)
				refused(w.l, start, 1, n)
			}
		}
	}
}

// A call is one on a player, and what it is behind it.
type call struct {
	do   string
	a, b int
	told string
	now  int
	left int
}

func tick(n int, told string, now, left int) call { return call{"tick", n, 0, told, now, left} }
func step(told string, now, left int) call        { return call{"step", 0, 0, told, now, left} }
func pause(now, left int) call                    { return call{"pause", 0, 0, "", now, left} }
func goOn(now, left int) call                     { return call{"go on", 0, 0, "", now, left} }
func speed(a, b, now, left int) call              { return call{"speed", a, b, "", now, left} }
func noSpeed(a, b, now, left int) call            { return call{"no speed", a, b, "", now, left} }

// done: what a call tells and answers.
func (c call) done(x *play.Player) ([]api.Event, api.Errno) {
	switch c.do {
	case "tick":
		return x.Tick(c.a), 0
	case "step":
		return x.Step(), 0
	case "pause":
		x.Pause(true)
	case "go on":
		x.Pause(false)
	case "speed", "no speed":
		return nil, x.Speed(c.a, c.b)
	}
	return nil, 0
}

func TestCalls(t *testing.T) {
	const low, high = math.MinInt, math.MaxInt
	for _, r := range []struct {
		name  string
		times []int
		start int
		p, q  int
		calls []call
	}{
		{"at 1/2 an event at 5 is due behind 10", []int{5}, 0, 1, 2, []call{
			tick(9, "", 4, 1), tick(1, "a", 5, 0), tick(1, "", 5, 0), tick(1, "", 6, 0)}},
		{"at once", []int{5}, 0, 1, 2, []call{tick(10, "a", 5, 0)}},
		{"as fast as time goes by", []int{3, 5, 5, 6, 9}, 0, 1, 1, []call{
			tick(2, "", 2, 5), tick(1, "a", 3, 4), tick(1, "", 4, 4), tick(1, "bc", 5, 2), tick(5, "de", 10, 0), tick(7, "", 17, 0)}},
		{"from a time on", []int{3, 5, 6}, 4, 1, 1, []call{tick(0, "", 4, 2), tick(1, "b", 5, 1), tick(1, "c", 6, 0)}},
		{"twice as fast", []int{3, 4, 5, 6}, 1, 2, 1, []call{tick(1, "a", 3, 3), tick(1, "bc", 5, 1), tick(1, "d", 7, 0)}},
		{"MaxSpeed", []int{999, 1000, 1001, 2000, 2001}, 0, 1000, 1, []call{tick(1, "ab", 1000, 3), tick(1, "cd", 2000, 1), tick(1, "e", 3000, 0)}},
		{"as slow as it may be", []int{1, 2}, 0, 1, 1000, []call{
			tick(999, "", 0, 2), tick(1, "a", 1, 1), tick(999, "", 1, 1), tick(1, "b", 2, 0)}},
		{"MaxSpeed by MaxSpeed", []int{1}, 0, 1000, 1000, []call{tick(1, "a", 1, 0)}},
		{"ticks of nothing and below it", []int{1, 2}, 0, 1, 1, []call{
			tick(0, "", 0, 2), tick(-1, "", 0, 2), tick(low, "", 0, 2), tick(1, "a", 1, 1), tick(-1, "", 1, 1), tick(low, "", 1, 1), tick(0, "", 1, 1), tick(1, "b", 2, 0)}},
		{"at 2/3 by ones", []int{1, 2, 3, 4}, 0, 2, 3, []call{
			tick(1, "", 0, 4), tick(1, "a", 1, 3), tick(1, "b", 2, 2), tick(1, "", 2, 2), tick(1, "c", 3, 1), tick(1, "d", 4, 0)}},
		{"at 2/3 at once", []int{1, 2, 3, 4}, 0, 2, 3, []call{tick(5, "abc", 3, 1)}},
		{"at 3/7 by ones", []int{1, 2}, 0, 3, 7, []call{
			tick(1, "", 0, 2), tick(1, "", 0, 2), tick(1, "a", 1, 1), tick(1, "", 1, 1), tick(1, "b", 2, 0), tick(1, "", 2, 0), tick(1, "", 3, 0)}},
		{"what is left is of the product, not of the time", []int{11}, 10, 1, 3, []call{tick(2, "", 10, 1), tick(1, "a", 11, 0)}},
		{"none goes by while it is paused", []int{2, 4}, 0, 1, 1, []call{
			tick(1, "", 1, 2), pause(1, 2), tick(1, "", 1, 2), tick(high, "", 1, 2), tick(low, "", 1, 2), tick(0, "", 1, 2), goOn(1, 2), tick(0, "", 1, 2), tick(1, "a", 2, 1), tick(2, "b", 4, 0)}},
		{"a pause keeps what was left", []int{1}, 0, 1, 3, []call{
			tick(2, "", 0, 1), pause(0, 1), tick(2, "", 0, 1), goOn(0, 1), tick(1, "a", 1, 0)}},
		{"paused twice, off once", []int{2}, 0, 1, 1, []call{
			pause(0, 1), pause(0, 1), tick(5, "", 0, 1), goOn(0, 1), tick(2, "a", 2, 0)}},
		{"off twice, paused once", []int{2}, 0, 1, 1, []call{
			goOn(0, 1), goOn(0, 1), tick(1, "", 1, 1), pause(1, 1), tick(1, "", 1, 1), goOn(1, 1), tick(1, "a", 2, 0)}},
		{"paused at once", []int{0, 1}, 0, 1, 1, []call{pause(0, 1), tick(1, "", 0, 1), step("b", 1, 0), tick(1, "", 1, 0)}},
		{"no event at all", nil, 3, 1, 1, []call{
			step("", 3, 0), tick(2, "", 5, 0), step("", 5, 0), pause(5, 0), step("", 5, 0), tick(1, "", 5, 0), speed(2, 1, 5, 0), goOn(5, 0), tick(2, "", 9, 0)}},
		{"step by step", []int{0, 3, 5, 5, 5, 6}, 0, 1, 1, []call{
			step("b", 3, 4), step("cde", 5, 1), step("f", 6, 0), step("", 6, 0), step("", 6, 0)}},
		{"all behind the start are of one time", []int{7, 7}, 0, 1, 1, []call{step("ab", 7, 0), step("", 7, 0)}},
		{"a step goes far", []int{0, last, last}, 0, 1, 1000, []call{step("bc", last, 0), step("", last, 0), tick(999, "", last, 0), tick(1, "", api.MaxTime, 0)}},
		{"a step while it is paused", []int{3, 4}, 0, 1, 1, []call{
			tick(1, "", 1, 2), pause(1, 2), step("a", 3, 1), tick(9, "", 3, 1), step("b", 4, 0), step("", 4, 0), tick(9, "", 4, 0), goOn(4, 0), tick(9, "", 13, 0)}},
		{"behind a step wall time is 0", []int{3, 10, 11}, 0, 1, 1, []call{
			tick(2, "", 2, 3), step("a", 3, 2), tick(6, "", 9, 2), tick(1, "b", 10, 1), tick(1, "c", 11, 0)}},
		{"a step lets go of what was left", []int{3, 4}, 0, 1, 3, []call{
			tick(2, "", 0, 2), step("a", 3, 1), tick(2, "", 3, 1), tick(1, "b", 4, 0)}},
		{"a step that tells nothing lets go of nothing", []int{0}, 0, 1, 3, []call{
			tick(2, "", 0, 0), step("", 0, 0), tick(1, "", 1, 0)}},
		{"a step keeps the speed", []int{3, 5}, 0, 2, 1, []call{step("a", 3, 1), tick(1, "b", 5, 0)}},
		{"a step is to the first that wasn't told", []int{1, 2, 3}, 0, 1, 1, []call{tick(2, "ab", 2, 1), step("c", 3, 0)}},
		{"another speed goes on from its time", []int{5, 11}, 0, 1, 2, []call{
			tick(10, "a", 5, 1), speed(3, 1, 5, 1), tick(1, "", 8, 1), tick(1, "b", 11, 0)}},
		{"another speed lets go of what was left", []int{1, 2}, 0, 1, 3, []call{
			tick(2, "", 0, 2), speed(1, 2, 0, 2), tick(1, "", 0, 2), tick(1, "a", 1, 1), tick(2, "b", 2, 0)}},
		{"so does the same one", []int{1}, 0, 1, 3, []call{
			tick(2, "", 0, 1), speed(1, 3, 0, 1), tick(2, "", 0, 1), tick(1, "a", 1, 0)}},
		{"a speed that is refused lets go of nothing", []int{1}, 0, 1, 3, []call{
			tick(2, "", 0, 1), noSpeed(0, 1, 0, 1), noSpeed(1, 0, 0, 1), noSpeed(1001, 1, 0, 1), noSpeed(1, 1001, 0, 1),
			noSpeed(-1, 1, 0, 1), noSpeed(1, -1, 0, 1), noSpeed(low, high, 0, 1), noSpeed(high, low, 0, 1), noSpeed(0, 0, 0, 1), tick(1, "a", 1, 0), tick(3, "", 2, 0)}},
		{"a speed while it is paused", []int{1, 4}, 0, 1, 1, []call{
			tick(1, "a", 1, 1), pause(1, 1), speed(3, 1, 1, 1), tick(9, "", 1, 1), noSpeed(3, 0, 1, 1), tick(9, "", 1, 1), goOn(1, 1), tick(1, "b", 4, 0)}},
		{"the fastest and the slowest", []int{1000, 1001}, 0, 1, 1, []call{
			speed(1000, 1, 0, 2), tick(1, "a", 1000, 1), speed(1, 1000, 1000, 1), tick(999, "", 1000, 1), tick(1, "b", 1001, 0)}},
		{"the greatest tick", []int{5, last}, 0, 1, 1, []call{
			tick(high, "ab", api.MaxTime, 0), tick(high, "", api.MaxTime, 0), tick(1, "", api.MaxTime, 0), tick(low, "", api.MaxTime, 0), step("", api.MaxTime, 0)}},
		{"wall time comes to MaxTime", []int{last}, 0, 1, 1, []call{
			tick(api.MaxTime-2, "", last-1, 1), tick(1, "a", last, 0), tick(1, "", api.MaxTime, 0), tick(1, "", api.MaxTime, 0)}},
		{"wall time is MaxTime at most", []int{half - 1, half, half + 1}, 0, 1, 2, []call{
			tick(api.MaxTime-1, "a", half-1, 2), tick(1, "b", half, 1), tick(1, "", half, 1), tick(1, "", half, 1), tick(high, "", half, 1), step("c", half+1, 0), tick(2, "", half+2, 0)}},
		{"the greatest tick at 1/1000", []int{half}, 7, 1, 1000, []call{
			tick(high, "", 7+api.MaxTime/1000, 1), tick(high, "", 7+api.MaxTime/1000, 1), speed(1, 1000, 7+api.MaxTime/1000, 1), tick(high, "", 7+2*(api.MaxTime/1000), 1)}},
		{"a tick ahead of the greatest one", []int{last}, 0, 1, 1000, []call{
			tick(5, "", 0, 1), tick(high, "", api.MaxTime/1000, 1), tick(high, "", api.MaxTime/1000, 1)}},
		{"a product that no integer holds", []int{half, half + 1}, 0, 1000, 1000, []call{
			tick(half, "a", half, 1), tick(1, "b", half+1, 0), tick(half-1, "", api.MaxTime, 0)}},
		{"one that comes to all of 64 bits", []int{1 << 54, 1<<54 + 1}, 0, 1, 1, []call{
			speed(256, 1, 0, 2), tick(1<<46, "a", 1<<54, 1), speed(1, 1, 1<<54, 1), tick(1, "b", 1<<54+1, 0)}},
		{"2^64 by 4", []int{last}, 0, 4, 4, []call{tick(last, "a", last, 0), tick(1, "", api.MaxTime, 0)}},
		{"2^64 by 8", []int{half - 1, half, last}, 0, 4, 8, []call{tick(last, "a", half-1, 2), tick(1, "b", half, 1), tick(1, "", half, 1)}},
		{"past 2^64 by 1000", []int{last}, 0, 999, 1000, []call{tick(high, "", 999*(api.MaxTime/1000)+903, 1)}},
		{"what is answered would be past 2^64", []int{last}, 0, 1000, 1, []call{tick(high, "a", api.MaxTime, 0)}},
		{"it would be just 2^64", []int{last}, 0, 4, 1, []call{tick(high, "a", api.MaxTime, 0), speed(1, 1, last, 0)}},
		{"a time past MaxTime", []int{last}, last - 1, 3, 1, []call{tick(1, "a", api.MaxTime, 0)}},
		{"from MaxTime - 1 on", []int{last}, last, 1, 2, []call{
			tick(1, "", last, 0), tick(1, "", api.MaxTime, 0), tick(2, "", api.MaxTime, 0)}},
		{"a time of MaxTime, at another speed", []int{last}, 0, 1, 1, []call{
			tick(high, "a", api.MaxTime, 0), speed(1, 2, last, 0), tick(1, "", last, 0), tick(1, "", api.MaxTime, 0), noSpeed(1, 0, api.MaxTime, 0), speed(1, 2, last, 0)}},
		{"a time of MaxTime - 1, at another speed", []int{last}, 0, 1, 1, []call{
			tick(last, "a", last, 0), speed(1, 2, last, 0)}},
	} {
		l := lettered(r.times...)
		x := begun(t, l, r.start, r.p, r.q)
		rest := l[len(l)-x.Left():]
		paused := false
		for i, c := range r.calls {
			told, e := c.done(x)
			if want := map[string]api.Errno{"no speed": api.ErrArg}[c.do]; e != want {
				t.Fatalf("%s: call %d, %v: %v, want %v", r.name, i, c, e, want)
			}
			paused = c.do == "pause" || paused && c.do != "go on"
			if texts(told) != c.told {
				t.Fatalf("%s: call %d, %v: told %q", r.name, i, c, texts(told))
			}
			if !slices.Equal(told, rest[:len(told)]) {
				t.Fatalf("%s: call %d, %v: told %v, not the next of %v", r.name, i, c, told, rest)
			}
			rest = rest[len(told):]
			expect(t, r.name+": "+c.do, x, c.now, c.left, paused)
		}
	}
}

// All kinds of events are told as they are.
func TestWholeEvents(t *testing.T) {
	l := []api.Event{
		{Time: 1, Kind: api.Out, Data: "a\x00\xFF"},
		{Time: 1, Kind: api.In},
		{Time: 1, Kind: api.Size, W: 1, H: api.MaxSize},
		{Time: 2, Kind: api.Mark, Data: strings.Repeat("m", api.MaxData)},
		{Time: 2, Kind: api.Size, W: api.MaxSize, H: 1},
	}
	if got := begun(t, l, 0, 1, 1).Tick(2); !slices.Equal(got, l) {
		t.Error(got)
	}
	x := begun(t, l, 0, 1, 1)
	if one, two := x.Step(), x.Step(); !slices.Equal(one, l[:3]) || !slices.Equal(two, l[3:]) {
		t.Error(one, two)
	}
}
