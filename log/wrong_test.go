package log_test

import (
	"bytes"
	"math"
	"slices"
	"strings"
	"testing"

	"flipbook/api"
	"flipbook/log"
	"flipbook/state"
	"flipbook/term"
)

func TestNoBytes(t *testing.T) {
	for _, b := range [][]byte{nil, {}} {
		r, n, e := log.Rescue(b)
		d, de := log.Decode(b)
		if r != nil || n != 0 || e != api.ErrForm || d != nil || de != api.ErrForm {
			t.Error(r, n, e, d, de)
		}
	}
}

// a recording of three events, keys of all, and its terminals.
func short() model {
	return model{
		start:  string(state.Encode(term.New(2, 1))),
		events: []api.Event{{Time: 5, Data: "a"}, {Time: 5, Kind: api.Size, W: 3, H: 1}, {Time: 9, Data: "中"}},
		keys:   []int{0, 2},
	}
}

// wrongFrames: what may not stand behind three events, the last at 9, and a key with After 2.
func wrongFrames(m model) map[string]string {
	now := terminal(m.start, m.events)
	return map[string]string{
		"nothing":                                "",
		"no sign that is known":                  "X\x00\x00\x01x",
		"a small sign":                           "e\x00\x00\x01x",
		"sign 0":                                 "\x00",
		"an S":                                   "S" + m.start,
		"an S of now":                            "S" + now,
		"an E of nothing":                        "E",
		"an E of a kind alone":                   "E\x00",
		"an E without its text":                  "E\x00\x00",
		"an E of half its text":                  "E\x00\x00\x02x",
		"an E with bytes behind it":              "E\x00\x00\x01xx",
		"an E with a 0 behind it":                "E\x00\x00\x01x\x00",
		"an E of kind 4":                         "E\x04\x00\x00",
		"an E of a Size of 0":                    "E\x02\x00\x00\x01",
		"an E of a Size of 1001":                 "E\x02\x00\x01\xE9\x07",
		"an E of a Size without H":               "E\x02\x00\x01",
		"an E of 401 bytes":                      "E\x00\x00\x91\x03" + strings.Repeat("x", 401),
		"an E of MaxTime":                        "E\x00" + number(1<<62-9) + "\x00",
		"an E past MaxTime":                      "E\x00" + number(1<<62-1) + "\x00",
		"an E whose time falls":                  "E\x00\xFF\xFF\xFF\xFF\xFF\xFF\xFF\xFF\xFF\x01\x01x",
		"an E whose time takes too many bytes":   "E\x00\x80\x00\x01x",
		"an E whose kind takes too many bytes":   "E\x80\x00\x00\x01x",
		"an E whose length takes too many bytes": "E\x00\x00\x81\x00x",
		"a K of nothing":                         "K",
		"a K without a number":                   "K" + now,
		"a K of a number alone":                  "K\x03",
		"a K with the last one's After":          "K\x02" + terminal(m.start, m.events[:2]),
		"a K with the last one's After, of now":  "K\x02" + now,
		"a K with an After ahead":                "K\x04" + now,
		"a K with After 0":                       "K\x00" + m.start,
		"a K whose After takes too many bytes":   "K\x83\x00" + now,
		"a K with a far After":                   "K\xFF\xFF\xFF\xFF\xFF\xFF\xFF\xFF\xFF\x01" + now,
		"a K with an After past all numbers":     "K\xFF\xFF\xFF\xFF\xFF\xFF\xFF\xFF\xFF\x03" + now,
		"a K with After 2^32 more":               "K" + number(1<<32+3) + now,
		"a K of the beginning":                   "K\x03" + m.start,
		"a K of the terminal ahead":              "K\x03" + terminal(m.start, m.events[:2]),
		"a K of another terminal":                "K\x03" + string(state.Encode(term.New(3, 1))),
		"a K of no terminal":                     "K\x03\x00",
		"a K with a byte too few":                "K\x03" + now[:len(now)-1],
		"a K with a byte too many":               "K\x03" + now + "\x00",
		"an I of nothing":                        "I",
		"an I of no keys":                        "I\x00",
		"an F":                                   "F\x00\x00\x00\x00",
	}
}

// goodFrames: what may.
func goodFrames(m model) map[string]string {
	now := terminal(m.start, m.events)
	return map[string]string{
		"an Out":           "E\x00\x00\x01x",
		"an In later":      "E\x01\x81\x01\x00",
		"a Mark":           "E\x03\x00\x02\xFF\x00",
		"a Size":           "E\x02\x00\xE8\x07\x01",
		"an Out of 400":    "E\x00\x00\x90\x03" + strings.Repeat("x", 400),
		"at the last time": "E\x00" + number(1<<62-10) + "\x00",
		"a K":              "K\x03" + now,
	}
}

func TestFramesThatMayNotStandThere(t *testing.T) {
	m := short()
	b := m.bytes()
	good := frame("E\x00\x00\x01x")
	for what, inside := range wrongFrames(m) {
		for _, behind := range []string{"", good, frame(inside), m.index()} {
			s := b + frame(inside) + behind
			r, n, e := log.Rescue([]byte(s))
			if e != api.OK || n != len(b) {
				t.Fatalf("%s: %v, %d, %d", what, r, n, int(e))
			}
			expectRec(t, what, r, m)
			if d, e := log.Decode([]byte(s)); d != nil || e != api.ErrForm {
				t.Fatalf("%s: decoded %v, %d", what, d, int(e))
			}
			expectRead(t, what, s)
		}
	}
	for what, inside := range goodFrames(m) {
		s := b + frame(inside)
		r, n, e := log.Rescue([]byte(s))
		if e != api.OK || n != len(s) || len(r.Events)+len(r.Keys) != 6 {
			t.Fatalf("%s: %v, %d, %d", what, r, n, int(e))
		}
		expectRead(t, what, s)
	}
}

func TestFirstFramesThatAreNone(t *testing.T) {
	m := short()
	blank := term.New(2, 1)
	for what, inside := range map[string]string{
		"nothing":                            "",
		"an S of nothing":                    "S",
		"an S with a byte too few":           "S" + m.start[:len(m.start)-1],
		"an S with a byte too many":          "S" + m.start + "\x00",
		"an S of a terminal that may not be": "S\x00" + m.start[1:],
		"a small s":                          "s" + m.start,
		"no sign":                            m.start,
		"an E":                               "E\x00\x00\x01x",
		"a K of a terminal":                  "K\x00" + string(state.Encode(blank)),
		"an I":                               "I\x00",
		"an F":                               "F\x00\x00\x00\x00",
		"a frame in a frame":                 frame("S" + m.start),
		"an S of many zeroes":                "S" + strings.Repeat("\x00", 100),
	} {
		for _, behind := range []string{"", frame("E\x00\x00\x01x"), m.bytes()} {
			s := frame(inside) + behind
			r, n, e := log.Rescue([]byte(s))
			if r != nil || n != 0 || e != api.ErrForm {
				t.Errorf("%s: %v, %d, %d", what, r, n, int(e))
			}
			expectRead(t, what, s)
		}
	}
}

func TestCutOffAtEachPlace(t *testing.T) {
	d := dice(5)
	for _, m := range []model{short(), eightsOf(0), eightsOf(9), chance(&d, 5), chance(&d, 12)} {
		s := m.bytes() + m.index()
		for i := range len(s) + 1 {
			expectRead(t, "cut off", s[:i])
			expectRead(t, "cut off ahead", s[i:])
		}
	}
}

func TestEachByteChanged(t *testing.T) {
	for _, m := range []model{short(), {start: short().start}, {start: short().start, keys: []int{0}}} {
		s := []byte(m.bytes() + m.index())
		for i := range s {
			was := s[i]
			for _, x := range []byte{0, 1, 0x7F, 0x80, 0xFF, was ^ 1, was ^ 0x80, was + 1, 'S', 'E', 'K', 'I', 'F'} {
				s[i] = x
				expectRead(t, "changed", string(s))
			}
			s[i] = was
		}
	}
}

// The same, but the frame's sum is right.
func TestEachByteWithinFramesChanged(t *testing.T) {
	m := short()
	l := append(m.frames(), "", "")
	l[len(l)-2], l[len(l)-1] = parted(m.index())
	for i, f := range l {
		inside, _, _ := unframe(f)
		for j := range len(inside) {
			for _, x := range []byte{0, 1, 2, 3, 0x7F, 0x80, 0xFF, inside[j] ^ 1, inside[j] + 1, inside[j] - 1, 'S', 'E', 'K', 'I', 'F'} {
				other := inside[:j] + string([]byte{x}) + inside[j+1:]
				expectRead(t, "changed", joined(l[:i])+frame(other)+joined(l[i+1:]))
			}
			expectRead(t, "a byte taken out", joined(l[:i])+frame(inside[:j]+inside[j+1:])+joined(l[i+1:]))
			expectRead(t, "a byte put in", joined(l[:i])+frame(inside[:j]+"\x00"+inside[j:])+joined(l[i+1:]))
		}
	}
}

// parted: two frames.
func parted(s string) (string, string) {
	_, n, _ := unframe(s)
	return s[:n], s[n:]
}

// All rows of frames of a recording and of others, each as often as may be.
func TestFramesInOtherOrders(t *testing.T) {
	m := short()
	l := m.frames()
	one, two := parted(m.index())
	l = append(l, one, two, frame("K\x01"+terminal(m.start, m.events[:1])), frame("E\x03\x00\x00"))
	are := 0
	for i := range len(l) * len(l) * len(l) * len(l) {
		s := l[0]
		for rest := i; rest > 0; rest /= len(l) {
			s += l[rest%len(l)]
		}
		expectRead(t, "a row", s)
		if d, _ := log.Decode([]byte(s)); d != nil {
			are++
		}
	}
	if are < 20 {
		t.Errorf("no more than %d of them are recordings", are)
	}
}

func TestIndexesThatEncodeDoesNotTell(t *testing.T) {
	for _, m := range []model{short(), eightsOf(0), eightsOf(8), eightsOf(17)} {
		b := m.bytes()
		one, two := parted(m.index())
		other := m
		other.keys = nil
		n := len(b)
		foot := func(n int) string {
			return frame("F" + string([]byte{byte(n), byte(n >> 8), byte(n >> 16), byte(n >> 24)}))
		}
		expectDecoded := func(what, s string, want api.Errno) {
			t.Helper()
			d, e := log.Decode([]byte(s))
			if e != want || (d != nil) != (want == api.OK) {
				t.Errorf("%s: %v, %d", what, d, int(e))
			}
			expectRead(t, what, s)
		}
		expectDecoded("none", b, api.OK)
		expectDecoded("its own", b+one+two, api.OK)
		expectDecoded("without its foot", b+one, api.ErrForm)
		expectDecoded("a foot alone", b+two, api.ErrForm)
		expectDecoded("the other way round", b+two+one, api.ErrForm)
		expectDecoded("twice", b+one+two+one+two, api.ErrForm)
		expectDecoded("a byte behind it", b+one+two+"\x00", api.ErrForm)
		expectDecoded("an event behind it", b+one+two+frame("E\x00\x00\x00"), api.ErrForm)
		expectDecoded("a byte ahead of it", b+"\x00"+one+two, api.ErrForm)
		expectDecoded("a byte too few", (b + one + two)[:len(b+one+two)-1], api.ErrForm)
		expectDecoded("a foot of one less", b+one+foot(n-1), api.ErrForm)
		expectDecoded("a foot of 0", b+one+foot(0), api.ErrForm)
		expectDecoded("a foot of 2^24 more", b+one+foot(n+1<<24), api.ErrForm)
		expectDecoded("a foot of its end", b+one+foot(n+len(one)), api.ErrForm)
		expectDecoded("its own foot made anew", b+one+foot(n), api.OK)
		if len(m.keys) > 0 {
			expectDecoded("that of no keys", b+other.index(), api.ErrForm)
			expectDecoded("that of no keys, at this place", b+frame("I\x00")+foot(n), api.ErrForm)
		}
	}
}

func TestBytesThatLookLikeChance(t *testing.T) {
	d := dice(6)
	for range 400 {
		m := chance(&d, d.upTo(10))
		l := append(m.frames(), "", "")
		l[len(l)-2], l[len(l)-1] = parted(m.index())
		other := chance(&d, d.upTo(4)).frames()
		for range d.upTo(3) {
			i := d.upTo(len(l))
			l = slices.Concat(l[:i], []string{pick(&d, pick(&d, other...), pick(&d, l...), "", "\x00", frame("x"), frame(chanceData(&d)))}, l[i+d.upTo(2):])
		}
		expectRead(t, "frames", joined(l))
		b := []byte(joined(l))
		if len(b) > 0 {
			b[d.upTo(len(b))] ^= byte(1 << d.upTo(8))
		}
		expectRead(t, "with a bit turned", string(b))
	}
}

// P0: what no recording is has no promised bytes, but no call panics, and the same calls are the same.
func TestCallsEndAndAreTheSame(t *testing.T) {
	far := []int{math.MinInt, -1, 0, 1, 2, 3, api.MaxTime, math.MaxInt}
	d := dice(7)
	for range 2000 {
		r := &log.Rec{Start: []byte(pick(&d, "", "x", short().start))}
		for range d.upTo(4) {
			r.Events = append(r.Events, api.Event{Time: pick(&d, far...), Kind: pick(&d, far...), Data: chanceData(&d), W: pick(&d, far...), H: pick(&d, far...)})
			r.Keys = append(r.Keys, log.Key{After: pick(&d, far...), State: []byte(chanceData(&d))})
		}
		for _, whole := range []bool{false, true} {
			b := r.Encode(whole)
			if !bytes.Equal(b, r.Encode(whole)) {
				t.Fatalf("%v: not the same", r)
			}
			one, n, e := log.Rescue(b)
			two, k, f := log.Rescue(b)
			if n != k || e != f || n > 0 && !sameRec(one, two) {
				t.Fatalf("% X: not the same", b)
			}
			expectRead(t, "what no recording is", string(b))
		}
		x, y := chanceTerminal(&d), term.New(4, 2)
		for _, e := range r.Events {
			log.Apply(x, e)
			log.Apply(y, e)
		}
		if _, e := state.Decode(log.New(x).Start); e != api.OK {
			t.Fatalf("%v may not be", x)
		}
		if r.Last() != r.Last() {
			t.Fatal("not the same")
		}
	}
}
