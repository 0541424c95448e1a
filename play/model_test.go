package play_test

import (
	"math"
	"math/big"
	"slices"
	"testing"

	"flipbook/api"
	"flipbook/play"
)

// dice are numbers that look like chance, the same ones each time.
type dice uint64

func (d *dice) upTo(n int) int {
	*d = *d*6364136223846793005 + 1442695040888963407
	return int(uint64(*d) >> 33 % uint64(n))
}

func pick[T any](d *dice, l ...T) T { return l[d.upTo(len(l))] }

// reached: a beginning and wall time times p, divided by q, without what is left; MaxTime at most. By numbers of any length.
func reached(start int, wall *big.Int, p, q int) int {
	n := new(big.Int).Mul(wall, big.NewInt(int64(p)))
	n.Quo(n, big.NewInt(int64(q)))
	n.Add(n, big.NewInt(int64(start)))
	if n.Cmp(big.NewInt(1<<62)) > 0 {
		return 1 << 62
	}
	return int(n.Int64())
}

// model is a player, by the chapter's words: it has the events that weren't told alone.
type model struct {
	rest   []api.Event
	start  int
	wall   *big.Int
	p, q   int
	paused bool
}

func (m *model) now() int { return reached(m.start, m.wall, m.p, m.q) }

func (m *model) anew(start int) { m.start, m.wall = start, new(big.Int) }

// due: what is due; it is told by that.
func (m *model) due() []api.Event {
	var l []api.Event
	for len(m.rest) > 0 && m.rest[0].Time <= m.now() {
		l = append(l, m.rest[0])
		m.rest = m.rest[1:]
	}
	return l
}

// done: what a call tells and answers.
func (m *model) done(c call) ([]api.Event, api.Errno) {
	switch c.do {
	case "tick":
		if !m.paused && c.a > 0 {
			m.wall.Add(m.wall, big.NewInt(int64(c.a)))
		}
		if m.wall.Cmp(big.NewInt(1<<62)) > 0 {
			m.wall.SetInt64(1 << 62)
		}
		return m.due(), 0
	case "step":
		if len(m.rest) == 0 {
			return nil, 0
		}
		m.anew(m.rest[0].Time)
		return m.due(), 0
	case "pause", "go on":
		m.paused = c.do == "pause"
	case "speed":
		if c.a < 1 || c.a > 1000 || c.b < 1 || c.b > 1000 {
			return nil, 3
		}
		m.anew(min(m.now(), 1<<62-1))
		m.p, m.q = c.a, c.b
	}
	return nil, 0
}

// played: a model that begins.
func played(l []api.Event, start, p, q int) *model {
	m := &model{rest: slices.Clone(l), start: start, wall: new(big.Int), p: p, q: q}
	m.due()
	return m
}

// far: a number, near 0 or anywhere, at an edge often.
func far(d *dice) int {
	near := pick(d, 0, 0, 1<<46, half, last, api.MaxTime, math.MaxInt, math.MinInt)
	return near + pick(d, 1, -1)*d.upTo(12)
}

// ratio: p or q of a speed that may be.
func ratio(d *dice) int { return pick(d, 1, 1, 2, 3, 7, 1+d.upTo(1000), 999, 1000) }

// chance: a right list that looks like chance, from a time on.
func chance(d *dice, from int) []api.Event {
	var l []api.Event
	wide := pick(d, 2, 4, 40, 4000)
	for i := range d.upTo(30) {
		from = min(from+d.upTo(wide), last)
		e := api.Event{Time: from, Kind: d.upTo(4)}
		if e.Kind == api.Size {
			e.W, e.H = 1+i, 1+d.upTo(api.MaxSize)
		} else {
			e.Data = string(rune('a' + i))
		}
		l = append(l, e)
		if d.upTo(12) == 0 {
			from = min(pick(d, 1<<40, half, last-9)+from, last)
		}
	}
	return l
}

// aCall: one that looks like chance.
func aCall(d *dice) call {
	switch d.upTo(12) {
	case 0:
		return call{do: "pause"}
	case 1, 2:
		return call{do: "go on"}
	case 3:
		return call{do: "step"}
	case 4:
		return call{do: "speed", a: ratio(d), b: ratio(d)}
	case 5:
		return call{do: "speed", a: pick(d, ratio(d), far(d)), b: pick(d, ratio(d), far(d))}
	case 6:
		return call{do: "tick", a: far(d)}
	case 7:
		return call{do: "tick", a: -d.upTo(3)}
	}
	return call{do: "tick", a: d.upTo(pick(d, 2, 4, 40, 4000))}
}

// P15.1: rows of calls that look like chance, each held against the chapter's words.
func TestModel(t *testing.T) {
	d := dice(15)
	for round := range 30000 {
		base := pick(&d, 0, 0, 5, 1<<40, last-40, last)
		l := chance(&d, base)
		start := max(0, min(base+d.upTo(20)-3, last))
		p, q := ratio(&d), ratio(&d)
		x, m := begun(t, l, start, p, q), played(l, start, p, q)
		for i := range 1 + d.upTo(40) {
			c := aCall(&d)
			told, e := c.done(x)
			want, we := m.done(c)
			if !slices.Equal(told, want) || e != we {
				t.Fatalf("round %d, call %d, %v: %v, %v, want %v, %v", round, i, c, told, e, want, we)
			}
			expect(t, c.do, x, m.now(), len(m.rest), m.paused)
		}
	}
}

// P15.2: each event is told once, in order: those that are told already and those that calls tell are the list.
func TestEachOnce(t *testing.T) {
	d := dice(152)
	for range 5000 {
		l := chance(&d, d.upTo(3))
		start := d.upTo(40)
		x := begun(t, l, start, ratio(&d), ratio(&d))
		told := slices.Clone(l[:len(l)-x.Left()])
		for i, e := range l {
			if early := e.Time <= start; early != (i < len(told)) {
				t.Fatalf("from %d on %d of %v are told already", start, len(told), l)
			}
		}
		for range d.upTo(30) {
			more, _ := aCall(&d).done(x)
			told = append(told, more...)
			if len(told)+x.Left() != len(l) {
				t.Fatalf("told %d, left %d, of %d", len(told), x.Left(), len(l))
			}
		}
		for x.Left() > 0 {
			more := x.Step()
			if len(more) == 0 {
				t.Fatalf("left %d, and a step tells nothing", x.Left())
			}
			told = append(told, more...)
		}
		if !slices.Equal(told, l) {
			t.Fatalf("told %v of %v", told, l)
		}
	}
}

// P15.3: behind whatever ticks and pauses just those events with a Time no later than start and wall time times p / q were told.
func TestJustThose(t *testing.T) {
	d := dice(153)
	for range 5000 {
		l := chance(&d, d.upTo(3))
		start, p, q := d.upTo(20), ratio(&d), ratio(&d)
		x := begun(t, l, start, p, q)
		wall, paused := new(big.Int), false
		told := slices.Clone(l[:len(l)-x.Left()])
		for range d.upTo(40) {
			switch d.upTo(6) {
			case 0:
				paused = !paused
				x.Pause(paused)
			case 1:
				x.Pause(paused)
			default:
				n := pick(&d, -5, 0, 1, d.upTo(30), d.upTo(4000), 1<<40, 1<<61)
				told = append(told, x.Tick(n)...)
				if !paused && n > 0 {
					wall.Add(wall, big.NewInt(int64(n)))
				}
			}
			if wall.Cmp(big.NewInt(1<<62)) > 0 {
				wall.SetInt64(1 << 62)
			}
			now := reached(start, wall, p, q)
			var want []api.Event
			for _, e := range l {
				if e.Time <= now {
					want = append(want, e)
				}
			}
			if !slices.Equal(told, want) || x.Now() != now {
				t.Fatalf("told %v at %d, want %v at %d", told, x.Now(), want, now)
			}
		}
	}
}

// All speeds up to some, each wall time one by one and at once, with pauses on the way.
func TestSpeeds(t *testing.T) {
	var times []int
	for n := range 26 {
		times = append(times, 10+n/2)
	}
	l := lettered(times...)
	for p := 1; p <= 9; p++ {
		for q := 1; q <= 9; q++ {
			slow := begun(t, l, 10, p, q)
			told := "ab"
			for wall := range 60 {
				now := 10 + wall*p/q
				if wall > 0 {
					told += texts(slow.Tick(1))
				}
				slow.Pause(true)
				told += texts(slow.Tick(wall))
				slow.Pause(false)
				want := texts(l)[:min(26, 2*(now-9))]
				if told != want || slow.Now() != now {
					t.Fatalf("at %d/%d behind %d: %q at %d, want %q at %d", p, q, wall, told, slow.Now(), want, now)
				}
				fast := begun(t, l, 10, p, q)
				if got := "ab" + texts(fast.Tick(wall)); got != want || fast.Now() != now {
					t.Fatalf("at %d/%d behind %d at once: %q at %d, want %q at %d", p, q, wall, got, fast.Now(), want, now)
				}
			}
		}
	}
}

// The player's list is its own: neither what was handed in nor what was told can change it.
func TestSharesNothing(t *testing.T) {
	wrong := api.Event{Time: -9, Kind: 9, Data: "wrong"}
	spoil := func(l []api.Event) {
		l = l[:cap(l)]
		for i := range l {
			l[i] = wrong
		}
	}
	for _, spare := range []int{0, 8} {
		l := append(make([]api.Event, 0, 6+spare), lettered(1, 2, 2, 3, 4, 4)...)
		was := slices.Clone(l)
		x, y := begun(t, l, 1, 1, 1), begun(t, l, 1, 1, 1)
		one := x.Tick(1)
		if !slices.Equal(l, was) {
			t.Fatalf("the list became %v", l)
		}
		spoil(one)
		spoil(l)
		two := x.Step()
		if texts(two) != "d" {
			t.Fatalf("told %v", two)
		}
		spoil(two)
		three := x.Tick(1)
		if texts(three) != "ef" || x.Left() != 0 || x.Now() != 4 {
			t.Fatalf("told %v", three)
		}
		// What was told stays as it is, whatever goes on.
		x.Tick(math.MaxInt)
		x.Speed(2, 1)
		x.Step()
		if texts(three) != "ef" {
			t.Fatalf("what was told became %v", three)
		}
		if got := texts(y.Tick(9)); got != "bcdef" {
			t.Fatalf("another player told %q", got)
		}
	}
}

// Two players of one list know nothing of each other.
func TestTwoPlayers(t *testing.T) {
	l := lettered(1, 2, 3)
	x, y := begun(t, l, 0, 1, 1), begun(t, l, 1, 1, 2)
	x.Pause(true)
	x.Step()
	x.Speed(3, 1)
	if got := texts(y.Tick(2)); got != "b" {
		t.Errorf("told %q", got)
	}
	expect(t, "the one", x, 1, 2, true)
	expect(t, "the other", y, 2, 1, false)
}

// P0: the same calls have the same outcome, and each ends, whatever it is handed.
func TestSameCalls(t *testing.T) {
	d := dice(150)
	for range 3000 {
		l := chance(&d, pick(&d, 0, last-30))
		if len(l) > 0 && d.upTo(4) == 0 {
			l[d.upTo(len(l))] = api.Event{Time: far(&d), Kind: d.upTo(5), W: d.upTo(2), Data: "x"}
		}
		start, p, q := far(&d), pick(&d, ratio(&d), far(&d)), pick(&d, ratio(&d), far(&d))
		x, e := play.New(l, start, p, q)
		y, f := play.New(slices.Clone(l), start, p, q)
		if e != f || (x == nil) != (e != api.OK) || (y == nil) != (e != api.OK) {
			t.Fatalf("New: %v, %v and %v, %v", x, e, y, f)
		}
		if e != api.OK {
			continue
		}
		for range d.upTo(20) {
			c := aCall(&d)
			a, e := c.done(x)
			b, f := c.done(y)
			if !slices.Equal(a, b) || e != f {
				t.Fatalf("%v: %v, %v and %v, %v", c, a, e, b, f)
			}
			expect(t, c.do, x, y.Now(), y.Left(), y.Paused())
		}
	}
}

// Many events are told one by one as well as at once.
func TestManyEvents(t *testing.T) {
	const n = 200000
	var l []api.Event
	for i := range n {
		l = append(l, api.Event{Time: 1 + i/2})
	}
	x := begun(t, l, 0, 1, 1)
	for i := range n / 4 {
		if got := len(x.Tick(1)) + len(x.Step()); got != 4 || x.Now() != 2*i+2 {
			t.Fatalf("told %d at %d", got, x.Now())
		}
	}
	expect(t, "behind all", x, n/2, 0, false)
	if got := begun(t, l, 0, 1, 1).Tick(n); !slices.Equal(got, l) {
		t.Fatalf("told %d", len(got))
	}
}
