package log_test

import (
	"slices"
	"strings"
	"testing"

	"flipbook/api"
	"flipbook/log"
	"flipbook/state"
	"flipbook/term"
)

func TestSigns(t *testing.T) {
	signs := []byte{log.SignStart, log.SignEvent, log.SignKey, log.SignIndex, log.SignFoot}
	if string(signs) != "SEKIF" {
		t.Errorf("%q", signs)
	}
}

// written: a terminal of these sides that these bytes were written to.
func written(w, h int, s string) *term.Term {
	t := term.New(w, h)
	t.Write(s)
	return t
}

func resized(t *term.Term, w, h int) *term.Term {
	t.Resize(w, h)
	return t
}

func TestApply(t *testing.T) {
	for _, c := range []struct {
		name string
		e    api.Event
		want *term.Term
	}{
		{"an Out", api.Event{Data: "cd\x1b[31m"}, written(5, 3, "ab\ncd\x1b[31m")},
		{"an Out of nothing", api.Event{}, written(5, 3, "ab\n")},
		{"an Out at some time", api.Event{Time: 77, Data: "x"}, written(5, 3, "ab\nx")},
		{"an Out that goes on in the next", api.Event{Data: "\x1b[3"}, written(5, 3, "ab\n\x1b[3")},
		{"an Out that is answered", api.Event{Data: "\x1b[6n"}, written(5, 3, "ab\n\x1b[6n")},
		{"an In", api.Event{Kind: api.In, Data: "x\x1b[6n"}, written(5, 3, "ab\n")},
		{"a Mark", api.Event{Kind: api.Mark, Data: "x"}, written(5, 3, "ab\n")},
		{"a Size that makes it smaller", api.Event{Kind: api.Size, W: 1, H: 1}, resized(written(5, 3, "ab\n"), 1, 1)},
		{"a Size that makes it larger", api.Event{Kind: api.Size, W: 9, H: 7}, resized(written(5, 3, "ab\n"), 9, 7)},
		{"a Size of the sides that it has", api.Event{Kind: api.Size, W: 5, H: 3}, written(5, 3, "ab\n")},
		{"a Size of the greatest sides", api.Event{Kind: api.Size, W: 1000, H: 1000}, resized(written(5, 3, "ab\n"), 60, 60)},
	} {
		x := written(5, 3, "ab\n")
		log.Apply(x, c.e)
		if !state.Same(x, c.want) {
			t.Errorf("%s: %v", c.name, x)
		}
	}
}

// What a terminal answers stays in its Reply, and is there in the keys.
func TestApplyLeavesTheReply(t *testing.T) {
	x := term.New(5, 3)
	log.Apply(x, api.Event{Data: "ab\x1b[6n"})
	log.Apply(x, api.Event{Time: 3, Data: "c\x1b[6n"})
	if x.Take() != "\x1b[1;3R\x1b[1;4R" {
		t.Errorf("%v", x)
	}
}

func TestNew(t *testing.T) {
	x := written(5, 3, "ab\x1b[6n")
	r := log.New(x)
	if string(r.Start) != string(state.Encode(x)) || len(r.Events) != 0 || len(r.Keys) != 0 || r.Last() != 0 {
		t.Errorf("%v", r)
	}
	was := string(r.Start)
	x.Write("c")
	if string(r.Start) != was || string(log.New(x).Start) == was {
		t.Error("the beginning isn't what the terminal was")
	}
}

func TestLast(t *testing.T) {
	start := state.Encode(term.New(1, 1))
	for _, c := range []struct {
		times []int
		want  int
	}{
		{nil, 0},
		{[]int{0}, 0},
		{[]int{7}, 7},
		{[]int{0, 7}, 7},
		{[]int{7, 7}, 7},
		{[]int{1, 2, 3, 128}, 128},
		{[]int{0, api.MaxTime - 1}, api.MaxTime - 1},
	} {
		r := &log.Rec{Start: start}
		for _, x := range c.times {
			r.Events = append(r.Events, api.Event{Time: x})
		}
		if r.Last() != c.want {
			t.Errorf("%d: %d", c.times, r.Last())
		}
	}
}

// The frames of recordings, one by one.
func TestEncodeIsTheFrames(t *testing.T) {
	start := string(state.Encode(term.New(2, 1)))
	a := api.Event{Time: 3, Data: "a"}
	b := api.Event{Time: 3, Kind: api.Size, W: 1, H: 200}
	c := api.Event{Time: 133, Kind: api.Mark, Data: "m"}
	states := []string{start, string(state.Encode(written(2, 1, "a"))), string(state.Encode(resized(written(2, 1, "a"), 1, 60)))}
	frames := func(l ...string) string {
		for i := range l {
			l[i] = frame(l[i])
		}
		return joined(l)
	}
	for _, c := range []struct {
		name   string
		events []api.Event
		keys   []int
		want   string
		index  string
	}{
		{"nothing", nil, nil, frames("S" + start), "I\x00"},
		{"nothing, a key with After 0", nil, []int{0}, frames("S"+start, "K\x00"+start), "I\x01\x00\x00" + number(len(frame("S"+start)))},
		{"one", []api.Event{a}, nil, frames("S"+start, "E\x00\x03\x01a"), "I\x00"},
		{"one, a key behind it", []api.Event{a}, []int{1}, frames("S"+start, "E\x00\x03\x01a", "K\x01"+states[1]), "I\x01\x01\x03" + number(len(frames("S"+start, "E\x00\x03\x01a")))},
		{"one, a key ahead", []api.Event{a}, []int{0}, frames("S"+start, "K\x00"+start, "E\x00\x03\x01a"), "I\x01\x00\x00" + number(len(frame("S"+start)))},
		{"three, a key between", []api.Event{a, b, c}, []int{2}, frames("S"+start, "E\x00\x03\x01a", "E\x02\x00\x01\xC8\x01", "K\x02"+states[2], "E\x03\x82\x01\x01m"),
			"I\x01\x02\x03" + number(len(frames("S"+start, "E\x00\x03\x01a", "E\x02\x00\x01\xC8\x01")))},
		{"three, two keys", []api.Event{a, b, c}, []int{1, 3}, frames("S"+start, "E\x00\x03\x01a", "K\x01"+states[1], "E\x02\x00\x01\xC8\x01", "E\x03\x82\x01\x01m", "K\x03"+states[2]),
			"I\x02\x01\x03" + number(len(frames("S"+start, "E\x00\x03\x01a"))) + "\x03\x85\x01" + number(len(frames("S"+start, "E\x00\x03\x01a", "K\x01"+states[1], "E\x02\x00\x01\xC8\x01", "E\x03\x82\x01\x01m")))},
	} {
		r := &log.Rec{Start: []byte(start), Events: c.events}
		for _, i := range c.keys {
			r.Keys = append(r.Keys, log.Key{After: i, State: []byte(states[min(i, 2)])})
		}
		if got := string(r.Encode(false)); got != c.want {
			t.Errorf("%s: %q, want %q", c.name, got, c.want)
		}
		n := len(c.want)
		whole := c.want + frames(c.index, "F"+string([]byte{byte(n), byte(n >> 8), 0, 0}))
		if got := string(r.Encode(true)); got != whole {
			t.Errorf("%s: with an index %q, want %q", c.name, got, whole)
		}
		expectRead(t, c.name, c.want)
		expectRead(t, c.name, whole)
	}
}

// The foot tells a number of each length in four bytes, the lowest first.
func TestFootOfManyBytes(t *testing.T) {
	for _, count := range []int{200, 42000} {
		r := log.New(term.New(2, 1))
		for range count {
			r.Events = append(r.Events, api.Event{Kind: api.Mark, Data: strings.Repeat("m", 400)})
		}
		whole := string(r.Encode(true))
		index := len(frame("I\x00")) + len(frame("F0000"))
		n := len(whole) - index
		foot := frame("F" + string([]byte{byte(n), byte(n >> 8), byte(n >> 16), byte(n >> 24)}))
		if n < count*400 || whole[n:] != frame("I\x00")+foot {
			t.Errorf("% X behind %d bytes", whole[n:], n)
		}
	}
}

// eightsOf: a recording of so many events, with keys behind each eighth.
func eightsOf(n int) model {
	m := model{start: string(state.Encode(term.New(3, 2))), keys: eighths(n)}
	for i := range n {
		m.events = append(m.events, api.Event{Time: i / 2, Data: string(rune('a' + i))})
	}
	return m
}

func TestEventsThatEveryDivides(t *testing.T) {
	for n, keys := range map[int]int{0: 0, 1: 0, 7: 0, 8: 1, 9: 1, 15: 1, 16: 2, 17: 2} {
		m := eightsOf(n)
		r := m.rec()
		if len(r.Keys) != keys {
			t.Fatal(n, r.Keys)
		}
		for _, whole := range []bool{false, true} {
			d, e := log.Decode(r.Encode(whole))
			if e != api.OK {
				t.Fatal(n, whole, int(e))
			}
			expectRec(t, "back", d, m)
		}
		if b := string(r.Encode(false)); b != m.bytes() || string(r.Encode(true)) != b+m.index() {
			t.Errorf("%d events: %q", n, r.Encode(true))
		}
	}
}

// The example: a file cut off within its last frame has all events but that one.
func TestCutOffWithinTheLastFrame(t *testing.T) {
	for _, n := range []int{1, 7, 9} {
		m := eightsOf(n)
		b := m.bytes()
		last := len(m.frames()[len(m.frames())-1])
		for cut := 1; cut <= last; cut++ {
			r, length, e := log.Rescue([]byte(b[:len(b)-cut]))
			if e != api.OK || length != len(b)-last || !slices.Equal(r.Events, m.events[:n-1]) {
				t.Fatalf("%d events, %d cut: %v, %d, %d", n, cut, r, length, int(e))
			}
			d, e := log.Decode([]byte(b[:len(b)-cut]))
			if whole := cut == last; (e == api.OK) != whole || (d != nil) != whole {
				t.Fatalf("%d events, %d cut: %v, %d", n, cut, d, int(e))
			}
		}
	}
	// Within the key behind the eighth: all eight, and no key.
	m := eightsOf(8)
	b := m.bytes()
	r, _, e := log.Rescue([]byte(b[:len(b)-1]))
	if e != api.OK || len(r.Events) != 8 || len(r.Keys) != 0 {
		t.Fatalf("%v, %d", r, int(e))
	}
}

// P13.2: keys and indexes change nothing of the list of events.
func TestKeysChangeNothingOfEvents(t *testing.T) {
	d := dice(1)
	for range 60 {
		m := chance(&d, d.upTo(20))
		for _, keys := range [][]int{nil, m.keys, {0}, {len(m.events)}, eighths(len(m.events))} {
			m.keys = keys
			for _, whole := range []bool{false, true} {
				r, e := log.Decode(m.rec().Encode(whole))
				if e != api.OK || !slices.Equal(r.Events, m.events) || string(r.Start) != m.start {
					t.Fatalf("%v, %d", r, int(e))
				}
				expectRec(t, "back", r, m)
			}
		}
	}
}

func TestEncodeByTheWords(t *testing.T) {
	d := dice(2)
	for range 150 {
		m := chance(&d, d.upTo(25))
		r := m.rec()
		if string(r.Encode(false)) != m.bytes() || string(r.Encode(true)) != m.bytes()+m.index() {
			t.Fatalf("%v: % X", r, r.Encode(true))
		}
		expectRec(t, "the recording that was encoded", r, m)
		expectRead(t, "without an index", m.bytes())
		expectRead(t, "with an index", m.bytes()+m.index())
	}
}

func TestEncodeAnswersNewMemory(t *testing.T) {
	m := eightsOf(9)
	r := m.rec()
	for _, whole := range []bool{false, true} {
		b := r.Encode(whole)
		for i := range b {
			b[i] ^= 0xFF
		}
		_ = append(b[:0], make([]byte, len(b))...)
		expectRec(t, "behind changed bytes", r, m)
	}
}

// expectParted: no two of the lists of an answer share memory, nor any of them with the bytes it was made from.
func expectParted(t *testing.T, what string, r *log.Rec, m model) {
	t.Helper()
	expectRec(t, what, r, m)
	_ = append(r.Start, "xxxxxxxxx"...)
	for _, k := range r.Keys {
		_ = append(k.State, "xxxxxxxxx"...)
	}
	expectRec(t, what+", behind appends", r, m)
	for i := range r.Start {
		r.Start[i] ^= 0xFF
	}
	want := m.rec()
	want.Start = r.Start
	if !sameRec(r, want) {
		t.Fatalf("%s: another Start changed more", what)
	}
}

func TestReadAnswersNewMemory(t *testing.T) {
	m := eightsOf(17)
	for _, s := range []string{m.bytes(), m.bytes() + m.index()} {
		b := []byte(s)
		r, _, _ := log.Rescue(b)
		d, _ := log.Decode(b)
		expectParted(t, "rescued", r, m)
		expectParted(t, "decoded", d, m)
		if string(b) != s {
			t.Fatal("the bytes changed")
		}
		r, _, _ = log.Rescue(b)
		d, _ = log.Decode(b)
		for i := range b {
			b[i] ^= 0xFF
		}
		expectRec(t, "rescued of bytes that changed", r, m)
		expectRec(t, "decoded of bytes that changed", d, m)
	}
}
