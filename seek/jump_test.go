package seek_test

import (
	"bytes"
	"math"
	"slices"
	"strings"
	"testing"

	"flipbook/api"
	"flipbook/seek"
	"flipbook/state"
)

// expectForm: none, and ErrForm, at some times.
func expectForm(t *testing.T, what, s string) {
	t.Helper()
	for _, at := range []int{math.MinInt, -1, 0, 5, 9, math.MaxInt} {
		if x, e := seek.Jump([]byte(s), at); x != nil || e != api.ErrForm {
			t.Errorf("%s: jump to %d: %v, %d", what, at, x, int(e))
		}
	}
}

// expectSome: ErrForm and none, or a terminal that may be, and the bytes are as they were.
func expectSome(t *testing.T, what, s string, times ...int) {
	t.Helper()
	b := []byte(s)
	for _, at := range times {
		x, e := seek.Jump(b, at)
		switch {
		case e == api.ErrForm && x == nil:
		case e == api.OK && x != nil:
			if _, e := state.Decode(state.Encode(x)); e != api.OK {
				t.Fatalf("%s: jump to %d: a terminal that may not be: %v", what, at, x)
			}
		default:
			t.Fatalf("%s: jump to %d: %v, %d", what, at, x, int(e))
		}
	}
	if string(b) != s {
		t.Fatalf("%s: the bytes became others", what)
	}
}

// A span of bytes, from one up to, without, another.
type span struct{ from, to int }

// unread: the bytes that Jump doesn't read: those ahead of the key that it goes on from, and those between the first event that is later and the index.
func (m model) unread(at int) []span {
	n := m.until(at)
	start, end, ahead := 0, len(m.bytes()), 0
	for _, p := range m.parts() {
		if p.key && p.n <= n {
			start = ahead
		}
		ahead += len(p.frame)
		if !p.key && p.n == n {
			end = ahead
		}
	}
	return []span{{0, start}, {end, len(m.bytes())}}
}

func (m model) someTimes() []int {
	return []int{math.MinInt, -1, 0, 9, 10, 15, 20, 29, 30, 31, 40, 45, 50, 70, math.MaxInt}
}

// What isn't read plays no part: each byte of it, another one, and all of it.
func TestJumpReadsNoMore(t *testing.T) {
	for _, together := range []int{1, 2, 3} {
		m := letters(10, together)
		m.events[3] = api.Event{Time: m.events[3].Time, Kind: api.Size, W: 4, H: 2}
		for _, m.keys = range [][]int{nil, {0}, {5}, {3, 8}, {10}, upTo(0, 10)} {
			whole := m.indexed()
			for _, at := range m.someTimes() {
				want := m.at(at)
				all := []byte(whole)
				for _, s := range m.unread(at) {
					for i := s.from; i < s.to; i++ {
						all[i] ^= 0xFF
						b := []byte(whole)
						b[i]++
						x, e := seek.Jump(b, at)
						if e != api.OK {
							t.Fatalf("keys %v, byte %d, jump to %d: %d", m.keys, i, at, int(e))
						}
						expectTerm(t, "with another byte", at, x, want)
					}
				}
				x, e := seek.Jump(all, at)
				if e != api.OK {
					t.Fatalf("keys %v, jump to %d: %d", m.keys, at, int(e))
				}
				expectTerm(t, "with other bytes", at, x, want)
			}
		}
	}
}

// Frames that stand where nothing is read may be such as may not stand there.
func TestJumpReadsNoMoreFrames(t *testing.T) {
	m := letters(4, 1)
	m.keys = []int{2}
	parts := m.parts()
	for _, other := range []string{frame("X"), frame(""), frame("E"), frame("K\x09"), frame("S"), frame("I\x00"), foot(0), "no frame"} {
		s := parts[0].frame + other + parts[3].frame + parts[4].frame + other
		end := len(s)
		s += index([]entry{{2, 20, len(parts[0].frame + other)}}) + foot(end)
		for at, want := range map[int]int{20: 2, 25: 2, 29: 2} {
			x, e := seek.Jump([]byte(s), at)
			if e != api.OK {
				t.Fatal(at, int(e))
			}
			expectTerm(t, "other frames", at, x, terminal(m.start, m.events[:want]))
		}
	}
}

// What is read does: each byte of it that becomes another one is no recording's.
func TestJumpReadsThat(t *testing.T) {
	m := letters(10, 2)
	for _, m.keys = range [][]int{nil, {0}, {5}, {3, 8}, {10}} {
		whole := m.indexed()
		for _, at := range m.someTimes() {
			l := m.unread(at)
			for i := range len(whole) {
				if i < l[0].to || l[1].from <= i && i < l[1].to {
					continue
				}
				b := []byte(whole)
				b[i] ^= 0x10
				if x, e := seek.Jump(b, at); e != api.ErrForm || x != nil {
					t.Fatalf("keys %v, byte %d, jump to %d: %v, %d", m.keys, i, at, x, int(e))
				}
			}
		}
	}
}

// Long recordings: At, Jump and the events one by one are the same at each time.
func TestJumpOfLong(t *testing.T) {
	d := dice(5)
	for _, every := range []int{0, 1, 8, 50} {
		m := model{start: blank(12, 3)}
		for i := range 100 {
			e := api.Event{Time: i / 2 * 3, Data: strings.Repeat(pick(&d, "abc", "中", "\x1b[1;3m", "\r\n", "\x1b[2J x", "\x1b[3;", "7H"), d.upTo(50))}
			m.events = append(m.events, e)
			if every > 0 && (i+1)%every == 0 {
				m.keys = append(m.keys, i+1)
			}
		}
		expectModel(t, "long", m)
	}
}

// A foot of four bytes that each tell something: the index is behind more than 2^24 bytes.
func TestJumpOfVeryLong(t *testing.T) {
	m := model{start: blank(4, 1)}
	idle := api.Event{Time: 3, Kind: api.In, Data: strings.Repeat("x", api.MaxData)}
	var b bytes.Buffer
	b.WriteString(frame("S" + m.start))
	first := frame("E" + eventBytes(0, idle))
	rest := frame("E" + eventBytes(3, idle))
	b.WriteString(first)
	count := 1
	for b.Len() < 1<<24+1<<17+1<<10 {
		b.WriteString(rest)
		count++
	}
	ahead := b.Len()
	b.WriteString(frame("K" + number(count) + m.start))
	b.WriteString(frame("E" + eventBytes(3, api.Event{Time: 5, Data: "a"})))
	b.WriteString(frame("E" + eventBytes(5, api.Event{Time: 6, Data: "b"})))
	end := b.Len()
	b.WriteString(index([]entry{{count, 3, ahead}}))
	b.WriteString(foot(end))
	for at, want := range map[int]string{2: "", 3: "", 4: "", 5: "a", 6: "ab", 7: "ab"} {
		x, e := seek.Jump(b.Bytes(), at)
		if e != api.OK || x.Text(0) != want {
			t.Errorf("jump to %d: %v, %d", at, x, int(e))
		}
	}
}

func TestJumpOfNoBytes(t *testing.T) {
	for _, b := range [][]byte{nil, {}} {
		if x, e := seek.Jump(b, 0); x != nil || e != api.ErrForm {
			t.Error(x, e)
		}
	}
}

func TestJumpWithoutAnIndex(t *testing.T) {
	for _, n := range []int{0, 1, 8, 17} {
		m := letters(n, 2)
		for _, m.keys = range [][]int{nil, {0}, eighths(n)} {
			s := m.bytes()
			expectForm(t, "without an index", s)
			expectForm(t, "with a foot alone", s+foot(len(s)))
			expectForm(t, "with I alone", s+index(m.entries()))
			expectForm(t, "with the foot ahead of I", s+foot(len(s))+index(m.entries()))
		}
	}
}

// wrongs: bytes that are read at any time and are no recording's.
func wrongs(m model) map[string]string {
	s, l := m.bytes(), m.entries()
	i, f := index(l), foot(len(s))
	inner := "I" + number(len(l))
	for _, x := range l {
		inner += number(x.after) + number(x.time) + number(x.ahead)
	}
	cut := inner[:len(inner)-1]
	return map[string]string{
		"the foot alone":                          foot(0),
		"I and the foot alone":                    index(nil) + foot(0),
		"bytes behind the foot":                   s + i + f + "\x00",
		"a frame behind the foot":                 s + i + f + frame(""),
		"an event behind the foot":                s + i + f + m.parts()[1].frame,
		"another foot of one's place behind":      s + i + f + foot(len(s+i)),
		"a foot of another sign":                  s + i + frame("f"+four(len(s))),
		"a foot of an event's sign":               s + i + frame("E"+four(len(s))),
		"a foot of sign 0":                        s + i + frame("\x00"+four(len(s))),
		"a foot of three bytes":                   s + i + frame("F"+four(len(s))[:3]),
		"a foot of no bytes":                      s + i + frame("F"),
		"a foot of five bytes":                    s + i + frame("F"+four(len(s))+"\x00"),
		"a foot without a sign":                   s + i + frame(four(len(s))),
		"a foot with a wrong sum":                 s + i + f[:len(f)-1] + string([]byte{f[len(f)-1] ^ 1}),
		"a foot that tells the end":               s + i + foot(len(s+i+f)),
		"a foot that tells its own place":         s + i + foot(len(s+i)),
		"a foot that tells beyond the end":        s + i + foot(len(s+i+f)+1),
		"a foot that tells far beyond":            s + i + foot(1<<31),
		"a foot that tells farthest":              s + i + foot(1<<32-1),
		"a foot that tells the beginning":         s + i + foot(0),
		"a foot that tells within a frame":        s + i + foot(3),
		"a foot that tells within I":              s + i + foot(len(s)+1),
		"a foot that tells ahead of I":            s + i + foot(len(s)-1),
		"a foot that tells an event":              s + i + foot(len(m.parts()[0].frame)),
		"something between I and the foot":        s + i + frame("") + f,
		"a byte between I and the foot":           s + i + "\x00" + f,
		"I twice":                                 s + i + i + f,
		"an I of another sign":                    s + frame("i"+inner[1:]) + f,
		"an I of a key's sign":                    s + frame("K"+inner[1:]) + f,
		"an I without a sign":                     s + frame(inner[1:]) + f,
		"an I of nothing":                         s + frame("I") + f,
		"an empty frame for I":                    s + frame("") + f,
		"an I with a byte too few":                s + frame(cut) + f,
		"an I with a byte too many":               s + frame(inner+"\x00") + f,
		"an I with a whole entry too many":        s + frame(inner+"\x01\x01\x01") + f,
		"an I of a key more than it has":          s + frame("I"+number(len(l)+1)+inner[2:]) + f,
		"an I of a key fewer than it has":         s + frame("I"+number(len(l)-1)+inner[2:]) + f,
		"an I of none and the keys":               s + frame("I\x00"+inner[2:]) + f,
		"an I of very many":                       s + frame("I"+number(1<<40)+inner[2:]) + f,
		"an I of most":                            s + frame("I"+number(math.MaxInt)+inner[2:]) + f,
		"an I of most and no keys":                s + frame("I"+number(math.MaxInt)) + f,
		"an I of a count past all ints":           s + frame("I\x80\x80\x80\x80\x80\x80\x80\x80\x80\x01"+inner[2:]) + f,
		"an I of a count past all numbers":        s + frame("I"+strings.Repeat("\xFF", 10)+inner[2:]) + f,
		"an I whose count takes too many bytes":   s + frame("I\x82\x00"+inner[2:]) + f,
		"an I whose first place is beyond":        s + index([]entry{{l[0].after, l[0].time, len(s) + 1}, l[1]}) + f,
		"an I whose last place is beyond":         s + index([]entry{l[0], {l[1].after, l[1].time, len(s) + 1}}) + f,
		"an I whose place is far beyond":          s + index([]entry{l[0], {l[1].after, l[1].time, math.MaxInt}}) + f,
		"an I whose After is past all ints":       s + frame("I\x01\x80\x80\x80\x80\x80\x80\x80\x80\x80\x01\x01\x01") + f,
		"an I whose time is MaxTime":              s + index([]entry{l[0], {l[1].after, api.MaxTime, l[1].ahead}}) + f,
		"an I whose time is the greatest int":     s + index([]entry{l[0], {l[1].after, math.MaxInt, l[1].ahead}}) + f,
		"an I whose numbers take too many bytes":  s + frame("I\x01\x80\x00\x00\x00") + f,
		"an I whose place takes too many bytes":   s + frame("I\x01\x01\x00\x80\x00") + f,
		"an I whose time takes too many bytes":    s + frame("I\x01\x01\x80\x00\x00") + f,
		"an I that is cut off within the first":   s + frame(inner[:3]) + f,
		"an I with a wrong sum":                   s + i[:len(i)-1] + string([]byte{i[len(i)-1] ^ 1}) + f,
		"an I whose length is a byte more":        s + string([]byte{i[0] + 1}) + i[1:] + f,
		"the foot's bytes in the middle of bytes": s + f + i,
	}
}

func TestJumpOfWrongBytes(t *testing.T) {
	m := letters(6, 2)
	m.keys = []int{2, 5}
	for what, s := range wrongs(m) {
		expectForm(t, what, s)
		expectSome(t, what, s, m.times()...)
	}
}

// A wrong frame where it is read: at the key, behind it, at the beginning.
func TestJumpOfWrongFrames(t *testing.T) {
	m := letters(4, 1)
	m.keys = []int{2}
	p := m.parts()
	key, now := p[3].frame, terminal(m.start, m.events[:2])
	// whole: these frames, with an index of one key, which stands behind the first three of them.
	whole := func(l ...string) string {
		s := strings.Join(l, "")
		return s + index([]entry{{2, 20, len(l[0] + l[1] + l[2])}}) + foot(len(s))
	}
	s, a, b, c, d := p[0].frame, p[1].frame, p[2].frame, p[4].frame, p[5].frame
	for _, x := range []struct {
		what  string
		bytes string
		times []int // at which it is read
	}{
		{"a key with no terminal", whole(s, a, b, frame("K\x02"), c, d), []int{20, 30, 99}},
		{"a key with a byte too few", whole(s, a, b, frame("K\x02"+now[:len(now)-1]), c, d), []int{20, 30, 99}},
		{"a key with a byte too many", whole(s, a, b, frame("K\x02"+now+"\x00"), c, d), []int{20, 30, 99}},
		{"a key with other bytes", whole(s, a, b, frame("K\x02"+strings.Repeat("\xFF", len(now))), c, d), []int{20, 30, 99}},
		{"a key without After", whole(s, a, b, frame("K"+now), c, d), []int{20, 30, 99}},
		{"a key with another After", whole(s, a, b, frame("K\x03"+now), c, d), []int{20, 30, 99}},
		{"a key whose After takes too many bytes", whole(s, a, b, frame("K\x82\x00"+now), c, d), []int{20, 30, 99}},
		{"a key of nothing", whole(s, a, b, frame("K"), c, d), []int{20, 30, 99}},
		{"a key of another sign", whole(s, a, b, frame("k\x02"+now), c, d), []int{20, 30, 99}},
		{"an S for a key", whole(s, a, b, frame("S"+now), c, d), []int{20, 30, 99}},
		{"an event for a key", whole(s, a, b, c, d), []int{20, 30, 99}},
		{"an empty frame for a key", whole(s, a, b, frame(""), c, d), []int{20, 30, 99}},
		{"no frame for a key", whole(s, a, b, "\x20\x00", c, d), []int{20, 30, 99}},
		{"nothing for a key", whole(s, a, b), []int{20, 30, 99}},
		{"a key that is cut off", whole(s, a, b, key[:len(key)-1]), []int{20, 30, 99}},
		{"an S behind the key", whole(s, a, b, key, frame("S"+now), c, d), []int{20, 30, 99}},
		{"an empty frame behind the key", whole(s, a, b, key, frame(""), c, d), []int{20, 30, 99}},
		{"another sign behind the key", whole(s, a, b, key, frame("e\x00\x0A\x01c"), d), []int{20, 30, 99}},
		{"no frame behind the key", whole(s, a, b, key, "\x05E"), []int{20, 30, 99}},
		{"an event of nothing", whole(s, a, b, key, frame("E"), d), []int{20, 30, 99}},
		{"an event of kind 4", whole(s, a, b, key, frame("E\x04\x00\x00"), d), []int{20, 30, 99}},
		{"an event with a byte too few", whole(s, a, b, key, frame("E\x00\x00\x02c"), d), []int{20, 30, 99}},
		{"an event with a byte too many", whole(s, a, b, key, frame("E\x00\x00\x01cc"), d), []int{20, 30, 99}},
		{"an event of a Size of 0", whole(s, a, b, key, frame("E\x02\x00\x00\x01"), d), []int{20, 30, 99}},
		{"an event of MaxTime", whole(s, a, b, key, frame("E\x00"+number(api.MaxTime-20)+"\x00"), d), []int{20, 30, 99}},
		{"an event past MaxTime", whole(s, a, b, key, frame("E\x00"+number(api.MaxTime-1)+"\x00"), d), []int{20, 30, 99}},
		{"a wrong frame behind the next event", whole(s, a, b, key, c, frame("E")), []int{30, 99}},
		{"a byte behind the last event", whole(s, a, b, key, c, d, "\x00"), []int{40, 99}},
		{"a beginning of nothing", whole(frame("S"), a, b, key, c, d), []int{-1, 0, 10}},
		{"a beginning of no terminal", whole(frame("S\x00"), a, b, key, c, d), []int{-1, 0, 10}},
		{"a beginning with a byte too few", whole(frame("S"+m.start[:len(m.start)-1]), a, b, key, c, d), []int{-1, 0, 10}},
		{"a beginning with a byte too many", whole(frame("S"+m.start+"\x00"), a, b, key, c, d), []int{-1, 0, 10}},
		{"a beginning of another sign", whole(frame("s"+m.start), a, b, key, c, d), []int{-1, 0, 10}},
		{"a beginning without a sign", whole(frame(m.start), a, b, key, c, d), []int{-1, 0, 10}},
		{"a key for a beginning", whole(key, a, b, key, c, d), []int{-1, 0, 10}},
		{"an event for a beginning", whole(a, b, c, key, d), []int{-1, 0, 10}},
		{"an empty frame for a beginning", whole(frame(""), a, b, key, c, d), []int{-1, 0, 10}},
		{"no frame for a beginning", whole("\x20", a, b, key, c, d), []int{-1, 0, 10}},
		{"a wrong frame behind the beginning", whole(s, frame("E"), b, key, c, d), []int{-1, 0, 10}},
		{"no frame behind the beginning", whole(s, "\x7F\x7F", b, key, c, d), []int{-1, 0, 10}},
	} {
		for _, at := range x.times {
			if got, e := seek.Jump([]byte(x.bytes), at); got != nil || e != api.ErrForm {
				t.Errorf("%s: jump to %d: %v, %d", x.what, at, got, int(e))
			}
		}
		expectSome(t, x.what, x.bytes, m.times()...)
	}
}

// Indexes in whole frames that tell of other keys than there are: ErrForm, or some terminal.
func TestJumpOfOtherIndexes(t *testing.T) {
	m := letters(9, 2)
	m.keys = []int{0, 3, 7}
	s := m.bytes()
	var places []int
	ahead := 0
	for _, p := range m.parts() {
		places = append(places, ahead, ahead+1)
		ahead += len(p.frame)
	}
	places = append(places, len(s)-1, len(s), len(s)+1, len(s)+7, math.MaxInt)
	numbers := append(places, 2, 3, 4, 7, 10, 20, 1<<32, api.MaxTime-1, api.MaxTime)
	times := []int{math.MinInt, -1, 0, 10, 15, 20, 40, 99, math.MaxInt}
	for i := range m.entries() {
		for _, n := range numbers {
			l := m.entries()
			for _, change := range []*int{&l[i].after, &l[i].time, &l[i].ahead} {
				was := *change
				*change = n
				expectSome(t, "another number", s+index(l)+foot(len(s)), times...)
				*change = was
			}
		}
		for k := range m.entries() {
			l := m.entries()
			l[i], l[k] = l[k], l[i]
			expectSome(t, "two changed about", s+index(l)+foot(len(s)), times...)
			l[i] = l[k]
			expectSome(t, "one twice", s+index(l)+foot(len(s)), times...)
			expectSome(t, "one fewer", s+index(slices.Delete(l, k, k+1))+foot(len(s)), times...)
		}
	}
	expectSome(t, "no keys", s+index(nil)+foot(len(s)), times...)
}

// Feet in whole frames that tell of any place.
func TestJumpOfOtherFeet(t *testing.T) {
	m := letters(5, 2)
	for _, m.keys = range [][]int{nil, {0}, {2, 4}} {
		s := m.bytes()
		i := index(m.entries())
		for n := range len(s+i) + 20 {
			x := s + i + foot(n)
			expectSome(t, "another foot", x, m.someTimes()...)
			if n != len(s) {
				expectForm(t, "another foot", x)
			}
		}
	}
}

// Frames of others' places: any frame for any other one, taken away, and twice.
func TestJumpOfOtherFrames(t *testing.T) {
	m := letters(4, 2)
	m.keys = []int{0, 1, 3}
	var l []string
	for _, p := range m.parts() {
		l = append(l, p.frame)
	}
	end := index(m.entries())
	join := func(l []string) string { s := strings.Join(l, ""); return s + end + foot(len(s)) }
	for i := range l {
		for k := range l {
			x := slices.Clone(l)
			x[i] = l[k]
			expectSome(t, "another frame", join(x), m.someTimes()...)
			expectSome(t, "a frame more", join(slices.Insert(slices.Clone(l), i, l[k])), m.someTimes()...)
		}
		expectSome(t, "a frame fewer", join(slices.Delete(slices.Clone(l), i, i+1)), m.someTimes()...)
	}
}

func TestJumpOfBytesCutOff(t *testing.T) {
	m := letters(9, 2)
	for _, m.keys = range [][]int{nil, {0}, {8}, upTo(0, 9)} {
		s := m.indexed()
		for n := range len(s) {
			expectForm(t, "cut off", s[:n])
			expectSome(t, "with its head cut off", s[n+1:], m.someTimes()...)
		}
	}
}

func TestJumpOfEachByteChanged(t *testing.T) {
	m := letters(5, 2)
	for _, m.keys = range [][]int{nil, {3}, {0, 5}} {
		s := m.indexed()
		for i := range len(s) {
			for _, x := range []byte{1, 0x80, 0xFF} {
				b := []byte(s)
				b[i] ^= x
				expectSome(t, "a byte changed", string(b), -1, 9, 10, 20, 30, 99)
			}
			expectSome(t, "a byte fewer", s[:i]+s[i+1:], -1, 9, 10, 20, 30, 99)
			expectSome(t, "a byte more", s[:i]+"\x00"+s[i:], -1, 9, 10, 20, 30, 99)
		}
	}
}

// Whole frames whose bytes look like chance.
func TestJumpOfChance(t *testing.T) {
	d := dice(11)
	signs := "SEKIFx"
	for range 4000 {
		m := chance(&d, d.upTo(4))
		l := []string{}
		for _, p := range m.parts() {
			l = append(l, p.frame)
		}
		s := strings.Join(l, "")
		inner := string(signs[d.upTo(6)])
		for range d.upTo(9) {
			inner += number(pick(&d, 0, 1, 2, 3, len(l[0]), len(s), d.upTo(len(s)), d.upTo(1<<30)))
		}
		expectSome(t, "chance", s+frame(inner)+foot(len(s)), -1, 0, 5, 200, math.MaxInt)
		expectSome(t, "chance", s+frame("I"+inner[1:])+foot(len(s)), -1, 0, 5, 200, math.MaxInt)
		expectSome(t, "chance", s+index(m.entries())+frame(inner), -1, 5)
	}
}
