package state_test

import (
	"fmt"
	"math"
	"slices"
	"strings"
	"testing"

	"flipbook/api"
	"flipbook/state"
	"flipbook/term"
)

// expectNone: the bytes are no terminal's.
func expectNone(t *testing.T, what, b string) {
	t.Helper()
	if x, e := state.Decode([]byte(b)); e != api.ErrForm || x != nil {
		t.Errorf("%s: % x: error %d, %v", what, b, e, x)
	}
	if _, ok := modelTerm(b); ok {
		t.Errorf("%s: % x: there is such a terminal", what, b)
	}
}

// A wrong is the bytes of New(2, 1) with one part that isn't right.
type wrong struct {
	name string
	set  func(p *parts)
}

func expectWrong(t *testing.T, rows ...wrong) {
	t.Helper()
	for _, x := range rows {
		p := first()
		x.set(&p)
		expectNone(t, x.name, p.bytes())
		expectCut(t, x.name, p.bytes())
	}
}

// expectCut: what isn't right stays so where the bytes end at once behind it, and wherever else they do.
func expectCut(t *testing.T, what, b string) {
	t.Helper()
	for i := range len(b) {
		expectModel(t, what+", cut off", b[:i])
	}
}

// far: numbers that are none of anything here.
func far() (l []string) {
	for _, n := range []int{1 << 10, 1 << 31, 1<<31 + 1, 1 << 32, 1<<32 + 1, 1 << 60, 1 << 61, 1<<62 + 1, math.MaxInt - 1, math.MaxInt, math.MinInt, math.MinInt + 1, -2, -1} {
		l = append(l, number(n))
	}
	return l
}

func TestWrongSides(t *testing.T) {
	sides := func(s string) wrong { return wrong{"sides", func(p *parts) { p.sides = s }} }
	expectWrong(t, sides("\x00\x01\x00\x01"), sides("\x02\x00\x00\x01"), sides("\x00\x00\x00\x00"), sides("\x02\x00\x00\x00"), sides("\x3d\x01\x00\x01"), sides("\x02\x3d\x00\x01"))
	for _, side := range []int{1, 60, 61, 62, 127, 128, 255, 256} {
		for _, other := range []int{1, 60} {
			for turned := range 2 {
				w, h := side, other
				if turned == 1 {
					w, h = h, w
				}
				// Bytes that would be right of such sides, if there were any.
				p := first()
				p.sides = number(w) + number(h) + "\x00\x01"
				p.lines = strings.Repeat(number(w)+" \x00", 2*h)
				if got := expectModel(t, "sides", p.bytes()); got != (side <= 60) {
					t.Errorf("%d by %d: %v", w, h, got)
				}
				// And those of the nearest sides that there are.
				p.lines = strings.Repeat(number(min(w, 60))+" \x00", 2*min(h, 60))
				if got := expectModel(t, "sides", p.bytes()); got != (side <= 60) {
					t.Errorf("%d by %d, of lines of the nearest sides: %v", w, h, got)
				}
			}
		}
	}
	p := first()
	p.sides, p.lines = "\x00\x01\x00\x01", ""
	expectNone(t, "no columns", p.bytes())
	p.sides = "\x02\x00\x00\x00"
	expectNone(t, "no lines", p.bytes())
	p.sides = "\x02\x00\x00\x01"
	expectNone(t, "no lines, of which one goes", p.bytes())
}

func TestWrongLinesThatGo(t *testing.T) {
	for h := 1; h <= 4; h++ {
		p := first()
		p.lines = strings.Repeat(blankTwo, 2*h)
		for top := range 7 {
			for end := range 7 {
				p.sides = number(2) + number(h) + number(top) + number(end)
				if got := expectModel(t, "lines that go", p.bytes()); got != (top < end && end <= h) {
					t.Errorf("the lines from %d up to %d of %d: %v", top, end, h, got)
				}
			}
		}
		for _, n := range far() {
			p.sides = number(2) + number(h) + n + number(h)
			expectNone(t, "Top", p.bytes())
			p.sides = number(2) + number(h) + "\x00" + n
			expectNone(t, "End", p.bytes())
		}
	}
}

func TestWrongFlags(t *testing.T) {
	for n := range 1024 {
		p := first()
		p.modes = number(n)
		if got := expectModel(t, "modes", p.bytes()); got != (n < 256) {
			t.Errorf("modes of the number %d: %v", n, got)
		}
	}
	for _, n := range far() {
		expectWrong(t, wrong{"modes", func(p *parts) { p.modes = n }})
	}
	for bit := range 64 {
		for _, n := range []int{1 << bit, 1<<bit + 1, 1<<bit - 1} {
			p := first()
			p.stops = number(n)
			if got := expectModel(t, "stops", p.bytes()); got != (n >= 0 && n < 1<<60) {
				t.Errorf("tab stops of the number %d: %v", n, got)
			}
		}
	}
	expectWrong(t, wrong{"stops", func(p *parts) { p.stops = number(-1) }})
}

func TestWrongCursors(t *testing.T) {
	for which := range 3 {
		with := func(c string) string {
			p := first()
			p.sides, p.lines = "\x02\x03\x00\x03", strings.Repeat(blankTwo, 6)
			p.cursors = strings.Repeat(noCursor, which) + c + strings.Repeat(noCursor, 2-which)
			return p.bytes()
		}
		for x := range 5 {
			for y := range 6 {
				for late := range 4 {
					b := with(number(x) + number(y) + number(late) + "\x00")
					want := x < 2 && y < 3 && (late == 0 || late == 1 && x == 1)
					if got := expectModel(t, "a cursor", b); got != want {
						t.Errorf("the cursor %d at %d, %d, Late %d: %v", which, x, y, late, got)
					}
					expectCut(t, "a cursor", b)
				}
			}
		}
		for _, n := range far() {
			expectNone(t, "a column", with(n+"\x00\x00\x00"))
			expectNone(t, "a line", with("\x00"+n+"\x00\x00"))
			expectNone(t, "Late", with("\x01\x00"+n+"\x00"))
		}
		for n := range 4096 {
			if got := expectModel(t, "a style", with("\x00\x00\x00"+number(n))); got != rightStyle(n) {
				t.Errorf("the cursor %d of the style %d: %v", which, n, got)
			}
		}
		for _, n := range far()[1:] {
			expectNone(t, "a style", with("\x00\x00\x00"+n))
		}
	}
}

// rightStyle: has a style this number?
func rightStyle(n int) bool { return n < 2048 && n%16 <= 8 && n/16%16 <= 8 }

// Lines that aren't whole, or have other bytes than theirs, on each screen and in Back.
func TestWrongLines(t *testing.T) {
	const wide, rest = "\x01\xad\x9c\x01\x00", "\x01\x00\x00"
	for name, x := range map[string]struct {
		line string
		want bool
	}{
		"blank":                           {"\x02 \x00", true},
		"two runes":                       {"\x01a\x00\x01b\x00", true},
		"a wide rune, and its rest":       {wide + rest, true},
		"a wide rune without a rest":      {wide + "\x01a\x00", false},
		"at the end":                      {"\x01a\x00" + wide, false},
		"twice":                           {"\x02\xad\x9c\x01\x00", false},
		"with a rest of another style":    {wide + "\x01\x00\x01", false},
		"a rest alone":                    {"\x01a\x00" + rest, false},
		"a rest first":                    {rest + "\x01a\x00", false},
		"rests":                           {"\x02\x00\x00", false},
		"a rest ahead of its wide rune":   {rest + wide, false},
		"two runs of the same":            {"\x01a\x00\x01a\x00", false},
		"no cells":                        {"", false},
		"one cell":                        {"\x01a\x00", false},
		"three cells":                     {"\x03a\x00", false},
		"three cells in two runs":         {"\x01a\x00\x02b\x00", false},
		"a run of none":                   {"\x00a\x00\x02b\x00", false},
		"a run of none behind":            {"\x02b\x00\x00a\x00", false},
		"a rune that steers":              {"\x02\x1f\x00", false},
		"127":                             {"\x02\x7f\x00", false},
		"half a rune of two":              {"\x02\x80\xb0\x03\x00", false},
		"beyond the last rune":            {"\x02\x80\x80\x44\x00", false},
		"the last rune":                   {"\x02\xff\xff\x43\x00", true},
		"a rune past all":                 {"\x02" + number(1<<32+'a') + "\x00", false},
		"a style past all":                {"\x02a" + number(2048), false},
		"Fore 9":                          {"\x02a\x09", false},
		"Back 9":                          {"\x02a" + number(16*9), false},
		"all of a style":                  {"\x02a" + number(1024+512+256+16*8+8), true},
		"a count in more bytes":           {"\x82\x00a\x00", false},
		"a rune in more bytes":            {"\x02\xe1\x00\x00", false},
		"a style in more bytes":           {"\x02a\x80\x00", false},
		"a count past all":                {number(-1) + "a\x00", false},
		"a count whose last bits are two": {number(1<<32+2) + "a\x00", false},
	} {
		shown, other, back := first(), first(), first()
		shown.lines, other.lines, back.back = x.line+blankTwo, blankTwo+x.line, "\x01\x02"+x.line
		for place, p := range map[string]parts{"of the screen": shown, "of the other one": other, "of Back": back} {
			if got := expectModel(t, name, p.bytes()); got != x.want {
				t.Errorf("%s, in a line %s: %v", name, place, got)
			}
			expectCut(t, name, p.bytes())
		}
	}
	expectWrong(t,
		wrong{"no line", func(p *parts) { p.lines = "" }},
		wrong{"one line alone", func(p *parts) { p.lines = blankTwo }},
		wrong{"a line more", func(p *parts) { p.lines += blankTwo }},
		wrong{"one line of as many cells", func(p *parts) { p.lines = "\x04 \x00" }},
	)
}

func TestWrongBack(t *testing.T) {
	for n := range 30 {
		p := first()
		p.back = number(n) + strings.Repeat("\x02\x02 \x00", n)
		if got := expectModel(t, "Back", p.bytes()); got != (n <= 20) {
			t.Errorf("%d lines of Back: %v", n, got)
		}
		p.back = number(n) + strings.Repeat("\x02\x02 \x00", n+1)
		expectNone(t, "a line too many", p.bytes())
		p.back = number(n+1) + strings.Repeat("\x02\x02 \x00", n)
		expectNone(t, "a line too few", p.bytes())
	}
	for w := range 130 {
		p := first()
		p.back = "\x01" + number(w) + number(w) + " \x00"
		if got := expectModel(t, "a line of Back", p.bytes()); got != (w >= 1 && w <= 60) {
			t.Errorf("a line of %d cells in Back: %v", w, got)
		}
		p.back = "\x02\x01\x01 \x00" + number(w) + number(w) + " \x00"
		if got := expectModel(t, "a line of Back", p.bytes()); got != (w >= 1 && w <= 60) {
			t.Errorf("a second line of %d cells in Back: %v", w, got)
		}
	}
	expectWrong(t,
		wrong{"a line of 0 cells", func(p *parts) { p.back = "\x01\x00" }},
		wrong{"lines of 0 cells", func(p *parts) { p.back = "\x03\x00\x00\x00" }},
		wrong{"a line of 0 cells behind one", func(p *parts) { p.back = "\x02\x01\x01 \x00\x00" }},
		wrong{"a line of 0 cells ahead of one", func(p *parts) { p.back = "\x02\x00\x01\x01 \x00" }},
	)
	for _, n := range far() {
		expectWrong(t,
			wrong{"lines", func(p *parts) { p.back = n }},
			wrong{"cells", func(p *parts) { p.back = "\x01" + n + n + " \x00" }},
			wrong{"cells that aren't there", func(p *parts) { p.back = "\x01" + n }},
		)
	}
}

func TestWrongTexts(t *testing.T) {
	for n := range 500 {
		p := first()
		p.texts = number(n) + strings.Repeat("t", n) + "\x00"
		if got := expectModel(t, "a title", p.bytes()); got != (n <= 40) {
			t.Errorf("a title of %d bytes: %v", n, got)
		}
		p.texts = "\x00" + number(n) + strings.Repeat("\x00", n)
		if got := expectModel(t, "a reply", p.bytes()); got != (n <= 400) {
			t.Errorf("a reply of %d bytes: %v", n, got)
		}
	}
	for _, n := range far() {
		expectWrong(t,
			wrong{"a title", func(p *parts) { p.texts = n + "\x00" }},
			wrong{"a reply", func(p *parts) { p.texts = "\x00" + n }},
		)
	}
}

func TestWrongParsers(t *testing.T) {
	long := strings.Repeat("x", 41)
	for _, s := range []string{
		"\x00\x05\x00\x00\x00\x00",         // within a string, in Ground
		"\x00\x00\x01a\x00\x00\x00",        // a byte that is a rune under way
		"\x00\x00\x01\xff\x00\x00\x00",     // one that begins none
		"\x00\x00\x02\xc3\xa9\x00\x00\x00", // a whole rune
		"\x00\x00\x02\xe0\x80\x00\x00\x00", // a second byte that goes on with none
		"\x00\x00\x03\xe4\xb8\xad\x00\x00\x00",
		"\x00\x00\x03\xf4\x90\x80\x00\x00\x00",
		"\x00\x00\x04\xf0\x9f\x98\x80\x00\x00\x00",
		"\x00\x00\x03\xe4\xb8\x00\x00\x00\x00", // the bytes behind the first ones
		"\x00\x00\x02\xc3\x00\x00\x00\x00",
		"\x00\x00\x00\x01(\x00\x00",
		"\x00\x00\x00\x00\x01\x00\x00",
		"\x00\x00\x00\x00\x00\x01a",
		"\x01\x00\x01\xc3\x00\x00\x00",
		"\x01\x00\x00\x01(\x00\x00",
		"\x01\x00\x00\x00\x01\x00\x00",
		"\x01\x00\x00\x00\x00\x01a",
		"\x01\x06\x00\x00\x00\x00",
		"\x02\x00\x00\x00\x00\x00", // Marks without marks
		"\x02\x00\x00\x010\x00\x00",
		"\x02\x00\x00\x01?\x00\x00",
		"\x02\x00\x00\x03(((\x00\x00",
		"\x02\x00\x00\x01(\x01\x00\x00",
		"\x03\x00\x00\x03???\x00\x00",
		"\x03\x00\x00\x01a\x00\x00",
		"\x03\x00\x00\x01\x1b\x00\x00",
		"\x03\x00\x00\x00\x01\x90\x4e\x00", // 10000
		"\x03\x00\x00\x00\x09" + strings.Repeat("\x00", 9) + "\x00",
		"\x03\x00\x00\x00\x01\x00\x01a",
		"\x03\x05\x00\x00\x00\x00",
		"\x04\x00\x00\x00\x02\x01\x90\x4e\x00",
		"\x04\x00\x00\x03???\x00\x00",
		"\x05\x00\x00\x00\x00\x29" + long,
		"\x05\x00\x00\x00\x00\x01\x1f",
		"\x05\x00\x00\x01(\x00\x01a",
		"\x05\x05\x00\x00\x00\x01a",
		"\x06\x00\x00\x00\x00\x29" + long,
		"\x06\x00\x00\x00\x00\x02a\x00",
		"\x06\x00\x00\x00\x01\x00\x00",
		"\x07\x00\x00\x00\x00\x00", // within none
		"\x07\x04\x00\x00\x00\x00",
		"\x07\x07\x00\x00\x00\x00",
		"\x07\x05\x00\x00\x00\x29" + long,
		"\x07\x05\x00\x00\x00\x01\x07",
		"\x07\x06\x01\xc3\x00\x00\x00",
		"\x08\x00\x00\x00\x00\x00", // no state
		"\x08\x05\x00\x00\x00\x00",
	} {
		expectWrong(t, wrong{fmt.Sprintf("the parser % x", s), func(p *parts) { p.parser = s }})
	}
	for stateNumber := range 10 {
		for within := range 10 {
			for _, rest := range []string{"\x00\x00\x00\x00", "\x00\x01(\x00\x00", "\x00\x00\x01\x09\x00", "\x00\x00\x00\x01a", "\x01\xc3\x00\x00\x00", "\x00\x01?\x01\x09\x00"} {
				p := first()
				p.parser = number(stateNumber) + number(within) + rest
				expectModel(t, "a parser", p.bytes())
			}
		}
	}
	for _, n := range far() {
		for _, s := range []string{n + "\x00\x00\x00\x00\x00", "\x00" + n + "\x00\x00\x00\x00", "\x07" + n + "\x00\x00\x00\x00", "\x00\x00" + n + "\x00\x00\x00", "\x02\x00\x00" + n + "\x00\x00", "\x03\x00\x00\x00" + n + "\x00", "\x05\x00\x00\x00\x00" + n} {
			expectWrong(t, wrong{"a number of the parser", func(p *parts) { p.parser = s }})
		}
	}
	for _, n := range far()[1:] {
		expectWrong(t, wrong{"a parameter", func(p *parts) { p.parser = "\x03\x00\x00\x00\x01" + n + "\x00" }})
	}
	for n := range 200 {
		p := first()
		p.parser = "\x03\x00\x00\x00\x01" + number(9900+n) + "\x00"
		if got := expectModel(t, "a parameter", p.bytes()); got != (9900+n <= 9999) {
			t.Errorf("a parameter of %d: %v", 9900+n, got)
		}
		p.parser = "\x04\x00\x00\x00" + number(n) + strings.Repeat("\x01", n) + "\x00"
		if got := expectModel(t, "parameters", p.bytes()); got != (n <= 8) {
			t.Errorf("%d parameters: %v", n, got)
		}
		for _, s := range []string{"\x05\x00", "\x06\x00", "\x07\x05", "\x07\x06"} {
			p.parser = s + "\x00\x00\x00" + number(n) + strings.Repeat("x", n)
			if got := expectModel(t, "a text", p.bytes()); got != (n <= 40) {
				t.Errorf("a text of %d bytes: %v", n, got)
			}
		}
	}
}

func TestNoBytes(t *testing.T) {
	expectNone(t, "no bytes", "")
	if x, e := state.Decode(nil); e != api.ErrForm || x != nil {
		t.Errorf("nil: error %d, %v", e, x)
	}
	for i := range 256 {
		expectNone(t, "one byte", string([]byte{byte(i)}))
		expectNone(t, "a side", string([]byte{byte(i), 1, 0, 1}))
	}
	for _, s := range []string{"\x00\x01", "a terminal", strings.Repeat("\x00", 100), strings.Repeat("\x01", 100), strings.Repeat("\xff", 1000), strings.Repeat("\x80", 1000)} {
		expectNone(t, "other bytes", s)
	}
}

// varied: terminals that have something of all, of few bytes.
func varied() (l []*term.Term) {
	for _, s := range []string{
		"", "a中\x1b[31mb\xe4\xb8", "\x1b[1;44mabcdefghi中\x1b7\n\n\n\x1b[?1;22;", "\x1b[2;3r\x1b[?6h中\x1b[?1049hx中y\x1b]0;name\x07\x1b]2;a\x1b", "abc\x1b[5n\x1b)0\x0e\x1b[?25;7l\x1b[?6:3",
	} {
		for _, sides := range [][2]int{{1, 1}, {4, 3}} {
			x := term.New(sides[0], sides[1])
			x.Write(s)
			l = append(l, x)
		}
	}
	l[len(l)-1].Resize(3, 2)
	return l
}

// P4: cut off at each place, and with more behind.
func TestCutOff(t *testing.T) {
	for _, x := range varied() {
		b := modelBytes(x)
		expectBytes(t, "varied", x)
		for i := range len(b) {
			expectNone(t, "cut off", b[:i])
			expectModel(t, "cut off ahead", b[i+1:])
			expectModel(t, "without one", b[:i]+b[i+1:])
			expectModel(t, "one twice", b[:i+1]+b[i:])
		}
		for i := range 256 {
			expectNone(t, "one more behind", b+string([]byte{byte(i)}))
		}
		expectNone(t, "two", b+b)
	}
}

// P4: with each byte changed to each other one, and with one more at each place.
func TestEachByteChanged(t *testing.T) {
	right, wrong := 0, 0
	for _, x := range varied() {
		b := []byte(modelBytes(x))
		for i := range b {
			was := b[i]
			for c := range 256 {
				b[i] = byte(c)
				if expectModel(t, "a byte changed", string(b)) {
					right++
				} else {
					wrong++
				}
			}
			b[i] = was
			for _, c := range []byte{0, 1, 2, 32, 'a', 127, 128, 255} {
				expectModel(t, "a byte more", string(slices.Insert(slices.Clone(b), i, c)))
			}
		}
	}
	if right < 5000 || wrong < 50000 {
		t.Errorf("%d were right, %d wrong", right, wrong)
	}
}

// Each number in more bytes than it needs, greater and less by a bit, and far too great.
func TestEachNumberChanged(t *testing.T) {
	for _, x := range varied() {
		l := tokens(x)
		for i, was := range l {
			if !was.number {
				continue
			}
			with := func(s string) string {
				l[i].bytes = s
				defer func() { l[i] = was }()
				return joined(l)
			}
			last := len(was.bytes) - 1
			longer := was.bytes[:last] + string([]byte{was.bytes[last] | 128})
			expectNone(t, "in a byte more", with(longer+"\x00"))
			expectNone(t, "in two more", with(longer+"\x80\x00"))
			expectNone(t, "in eleven", with(longer+strings.Repeat("\x80", 11-len(longer))+"\x00"))
			for _, n := range []int{math.MaxInt, math.MinInt, -1, 1 << 60} {
				expectNone(t, "far too great", with(number(n)))
			}
			n := (&taking{rest: was.bytes}).number()
			for _, other := range []int{n - 1, n + 1, n + 2, n + 16, n + 128, n + 256, n + 2048, n + 1<<21, n + 1<<31, n + 1<<32, n + 1<<59, n + 1<<61, 0, 1, 60, 61} {
				expectModel(t, "another number", with(number(other)))
			}
			expectModel(t, "no number", with(""))
		}
	}
}
