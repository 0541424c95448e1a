package term_test

import (
	"fmt"
	"maps"
	"math"
	"slices"
	"strconv"
	"strings"
	"testing"

	"flipbook/api"
	"flipbook/term"
)

// run: bytes written to a new terminal, and to the model of one.
func run(w, h int, s string) (*term.Term, *model) {
	x, m := term.New(w, h), newModel(w, h)
	x.Write(s)
	m.write(s)
	return x, m
}

// A start is a terminal, and the model of it, behind some bytes, to go on from more than once.
type start struct {
	bytes string
	x     *term.Term
	m     *model
}

func startOf(w, h int, s string) start {
	x, m := run(w, h, s)
	return start{s, x, m}
}

// copies: terminals that share nothing that is written to.
func (s start) copies() (*term.Term, *model) {
	x, m := *s.x, *s.m
	x.Grid, x.Other, x.Back = s.x.Grid.Copy(), s.x.Other.Copy(), slices.Clone(s.x.Back)
	m.screens = [2][][]api.Cell{slices.Clone(s.m.screens[0]), slices.Clone(s.m.screens[1])}
	m.stops, m.modes, m.back = maps.Clone(s.m.stops), maps.Clone(s.m.modes), slices.Clone(s.m.back)
	return &x, &m
}

// expectModel: behind more bytes the terminal is what the model of it is.
func (s start) expectModel(t *testing.T, bytes string) {
	t.Helper()
	x, m := s.copies()
	x.Write(bytes)
	m.write(bytes)
	if len(differ(x, m.term())) > 0 {
		expectSame(t, fmt.Sprintf("%q and %q", s.bytes, bytes), x, m.term())
	}
	sound(t, bytes, x)
}

// full: a screen of six columns and five lines, all of whose cells have something.
const full = "\x1b[31mabc中f\x1b[42mgh한kl\x1b[1mm中opq\x1b[0mrstuvw\x1b[44m中xy한\x1b[7m"

// begins: what a terminal of six columns and five lines may be ahead of a sequence.
func begins() (l []string) {
	ways := []string{"", "\x1b[2;4r", "\x1b[2;4r\x1b[?6h", "\x1b[1;3r", "\x1b[3;5r\x1b[?6h", "\x1b[4h\x1b[?7l", alt + full, "\x1b[2;3r" + alt + full}
	places := []string{"\x1b[H", "\x1b[1;6H", "\x1b[2;1H", "\x1b[2;4H", "\x1b[3;2H", "\x1b[4;6H", "\x1b[5;3H", "\x1b[5;6H", "\x1b[1;6Hz", "\x1b[3;6Hz", "\x1b[5;6Hz"}
	for _, way := range ways {
		for _, p := range places {
			l = append(l, full+way+p)
		}
	}
	// Out of the lines that go, with Origin, and Late without Wrap.
	for _, p := range []string{"\x1b[1;2H", "\x1b[5;2H", "\x1b[1;6Hz", "\x1b[5;6Hz"} {
		l = append(l, full+p+"\x1b7\x1b[2;3r\x1b[?6h\x1b8", full+p+lateWithoutWrap)
	}
	return l
}

// Each final byte, with each number of parameters and of marks, where it may matter; each byte; and runes.
func TestEachSequence(t *testing.T) {
	params := []string{"", "0", "1", "2", "3", "4", "5", "6", "7", "9999", "99999", "0;0", ";2", "2;", "2;3", "3;2", "4;4", "1;9999", "9999;1", "5;6", "6;25;7;1049", "1;31;42;7", "1;2;3;4;5;6;7;8", "6;5;4;3;2;1;0;9;8;7"}
	for _, begin := range begins() {
		s := startOf(6, 5, begin)
		for last := byte(64); last < 127; last++ {
			for _, p := range params {
				s.expectModel(t, "\x1b["+p+string(rune(last)))
			}
		}
		for last := byte(48); last < 127; last++ {
			s.expectModel(t, "\x1b"+string(rune(last)))
			s.expectModel(t, "\x1b("+string(rune(last))+"qx\x0eqx")
		}
		for b := range 256 {
			s.expectModel(t, string([]byte{byte(b)})+"zy")
		}
		for _, p := range []string{"", "6", "7", "25", "1049", "6;7", "25;1049", "1049;6;1049", "4", "9999"} {
			for _, last := range "hlnrJ" {
				s.expectModel(t, "\x1b[?"+p+string(last))
				s.expectModel(t, "\x1b[>"+p+string(last))
			}
		}
		for _, r := range []string{"a", "中", "~", "\uFFFD", "中x한", "xyzxyz中"} {
			s.expectModel(t, r)
			s.expectModel(t, "\x1b[4h"+r)
			s.expectModel(t, "\x1b(0"+r)
		}
	}
}

// Behind each sequence the terminal goes on as it should, of each number of columns and lines.
func TestResizeOfEach(t *testing.T) {
	for _, begin := range begins() {
		s := startOf(6, 5, begin)
		for w := range 9 {
			for h := range 8 {
				x, m := s.copies()
				x.Resize(w, h)
				m.resize(w, h)
				what := fmt.Sprintf("%q, to %d by %d", begin, w, h)
				expectSame(t, what, x, m.term())
				sound(t, what, x)
				x.Write("\x1b8a中\r\n\t" + noAlt + "z\n" + alt)
				m.write("\x1b8a中\r\n\t" + noAlt + "z\n" + alt)
				expectSame(t, what+", and on", x, m.term())
			}
		}
	}
}

// dice tell numbers that look like chance, and are the same each time.
type dice uint64

func (r *dice) next(n int) int {
	*r = *r*6364136223846793005 + 1442695040888963407
	return int(uint64(*r) >> 33 % uint64(n))
}

func pick[T any](r *dice, l ...T) T { return l[r.next(len(l))] }

// number: a parameter: small most of the time.
func (r *dice) number() string {
	switch r.next(12) {
	case 0:
		return ""
	case 1:
		return pick(r, "9999", "99999", "60", "61", "20", "21")
	}
	return strconv.Itoa(r.next(9))
}

func (r *dice) params() string {
	var l []string
	for range pick(r, 0, 1, 1, 1, 2, 2, 3, 8, 10) {
		l = append(l, r.number())
	}
	return strings.Join(l, ";")
}

// piece: some bytes that a program may write, and, now and then, any.
func (r *dice) piece() string {
	switch r.next(24) {
	case 0, 1, 2, 3, 4:
		return pick(r, "a", "bc", "q~", "defghij", " ", "some words that are longer")
	case 5, 6, 7:
		return pick(r, "中", "a한", "中文", "é", "\uFFFD", "\U0001F600", "中中中中中中中中")
	case 8, 9:
		return pick(r, "\n", "\n", "\r\n", "\t", "\b", "\v", "\f", "\r", "\x0e", "\x0f")
	case 10, 11, 12, 13, 14, 15:
		return "\x1b[" + r.params() + pick(r, "A", "B", "C", "D", "G", "H", "H", "H", "J", "K", "L", "M", "P", "S", "T", "X", "@", "`", "a", "d", "e", "f", "g", "m", "r", "n", "c")
	case 16:
		return "\x1b[" + pick(r, "1", "4", "7", "31", "42", "44;1", "0", "") + "m"
	case 17:
		return "\x1b[?" + pick(r, "6", "7", "7", "25", "1049", "6;7", "1049;25") + pick(r, "h", "h", "l")
	case 18:
		return "\x1b[4" + pick(r, "h", "l")
	case 19:
		return "\x1b" + pick(r, "7", "7", "8", "8", "D", "E", "M", "M", "H")
	case 20:
		return "\x1b" + pick(r, "(0", "(B", ")0", ")B", "(B", "*0")
	case 21:
		return pick(r, "\x1b]0;name\x07", "\x1b]2;a longer name than there is room for, by some bytes\x1b\\", "\x1b]1;no\x07", "\x1bP0;no\x1b\\", "\x1b]0;\x07")
	case 22:
		return pick(r, "\x1bc", "\x1b[3J", "\x1b[r", "\x18", "\x1b", "\xe4\xb8", "\xff", "\x1b[5n\x1b[6n\x1b[c", "\x1b[1;2r", "\x1b[2;4r")
	}
	b := ""
	for range r.next(6) {
		b += string([]byte{byte(r.next(256))})
	}
	return b
}

// side: about 1 to 9 most of the time, and now and then one far outside.
func (r *dice) side() int {
	if r.next(10) == 0 {
		return pick(r, math.MinInt, math.MinInt+1, -1, 0, 1, 59, 60, 61, math.MaxInt-1, math.MaxInt)
	}
	return 1 + r.next(9)
}

// P10.1, P10.3, and P0: whatever calls, each ends, what is promised holds of the terminal, it is that of the model, and the same calls have the same outcome.
func TestWhateverCalls(t *testing.T) {
	late, kept, wide, replies, origin := 0, 0, 0, 0, 0
	for seed := range 1500 {
		r := dice(seed)
		w, h := r.side(), r.side()
		x, again, m := term.New(w, h), term.New(w, h), newModel(w, h)
		what := fmt.Sprintf("of %d by %d", w, h)
		for range 60 {
			switch r.next(20) {
			case 0:
				w, h := r.side(), r.side()
				what += fmt.Sprintf(" to %d by %d", w, h)
				x.Resize(w, h)
				again.Resize(w, h)
				m.resize(w, h)
			case 1:
				what += " take"
				a, b, c := x.Take(), again.Take(), m.take()
				if a != c || a != b || len(a) > api.MaxData {
					t.Fatalf("%s: %q and %q are answered, want %q", what, a, b, c)
				}
				replies += len(a)
			default:
				s := r.piece()
				what += " " + strconv.Quote(s)
				x.Write(s)
				again.Write(s)
				m.write(s)
			}
			expectSame(t, what, x, m.term())
			expectSame(t, what+", the same calls", again, x)
			sound(t, what, x)
			late += count(x.Cursor.Late)
			kept += count(len(x.Back) == api.MaxBack)
			wide += strings.Count(texts(x.Lines), "<")
			origin += count(x.Origin && x.Top > 0)
		}
	}
	if late < 1000 || kept < 100 || wide < 10000 || replies < 100 || origin < 100 {
		t.Errorf("too little was seen: %d times Late, %d times all of Back, %d wide runes, %d bytes of replies, %d times Origin", late, kept, wide, replies, origin)
	}
}

func count(b bool) int {
	if b {
		return 1
	}
	return 0
}

// Many lines that go out, and many bytes: of what is kept there is no more than may be.
func TestManyBytes(t *testing.T) {
	x := term.New(60, 60)
	for i := range 400 {
		x.Write(strings.Repeat("\r\n", i%7) + "\x1b[6n\x1b[c" + strings.Repeat("中a", 30) + "\x1b]0;" + strings.Repeat("t", i) + "\x07\x1b[" + strings.Repeat("9;", i) + "S")
		sound(t, "many bytes", x)
	}
	if len(x.Back) != api.MaxBack || len(x.Title) != api.MaxText-2 || len(x.Reply) > api.MaxData {
		t.Errorf("%d lines, %d bytes of the title, %d of Reply", len(x.Back), len(x.Title), len(x.Reply))
	}
}

// session: bytes that have something of all that a terminal does.
const session = "ab中c\x1b[31md\xe4\xb8x\r\n\x1b[?6h\x1b[2;3r\x1b]0;n中ame\x07\x1b[1;4;44mefghij\x1b7" +
	"\x1b[4hk\x1b(0qx\x0e\x1b)0q\x0f\x1b[2;2H\x1b[6n\x1b[?1049;25h한\x1b]2;t\x1b\\u\x1b[?7lvwxyz\x1b[3@\xf0\x9f\x98\x80" +
	"\x1b[?1049l\x1b8\x1b[5n\x1b[99999;3;;H\x1bP1;2q\x1b\\\x1bH\t\x1b[g\x1b[0K\x1b[S\x1b[r\n\n\n\x1bM\x1b[2L\x1b[?25l\x18\x1b[1;2\x1b[>3:4m\xff\x1bc文\x1b[c\x1b[3"

// P10.2: parted at each place, and at two, and byte by byte.
func TestPartedBytes(t *testing.T) {
	texts := []string{session, full + amidAll, strings.ReplaceAll(session, "\x1bc", "")}
	r := dice(7)
	for range 40 {
		s := ""
		for range 30 {
			s += r.piece()
		}
		texts = append(texts, s)
	}
	for _, s := range texts {
		want := term.New(5, 4)
		want.Write(s)
		m := newModel(5, 4)
		m.write(s)
		expectSame(t, fmt.Sprintf("%q", s), want, m.term())
		bytewise := term.New(5, 4)
		for i := range len(s) {
			x := term.New(5, 4)
			x.Write(s[:i])
			x.Write(s[i:])
			expectSame(t, fmt.Sprintf("%q and %q", s[:i], s[i:]), x, want)
			bytewise.Write(s[i : i+1])
		}
		expectSame(t, fmt.Sprintf("%q byte by byte", s), bytewise, want)
		for range 50 {
			x := term.New(5, 4)
			i := r.next(len(s) + 1)
			j := i + r.next(len(s)-i+1)
			x.Write(s[:i])
			x.Write(s[i:j])
			x.Write("")
			x.Write(s[j:])
			expectSame(t, fmt.Sprintf("%q, %q, %q", s[:i], s[i:j], s[j:]), x, want)
		}
	}
}

// Parted at each place with other calls amid: a sequence goes on behind them.
func TestPartedByOtherCalls(t *testing.T) {
	for i := range len(session) {
		x, m := run(5, 4, session[:i])
		x.Resize(3, 6)
		m.resize(3, 6)
		if a, b := x.Take(), m.take(); a != b {
			t.Fatalf("behind %q: %q is answered, want %q", session[:i], a, b)
		}
		x.Write(session[i:])
		m.write(session[i:])
		expectSame(t, fmt.Sprintf("%q and %q", session[:i], session[i:]), x, m.term())
	}
}
