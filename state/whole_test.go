package state_test

import (
	"fmt"
	"math"
	"slices"
	"strconv"
	"strings"
	"testing"

	"flipbook/api"
	"flipbook/state"
	"flipbook/term"
	"flipbook/utf"
)

// dice tell numbers that look like chance, and are the same each time.
type dice uint64

func (r *dice) next(n int) int {
	*r = *r*6364136223846793005 + 1442695040888963407
	return int(uint64(*r) >> 33 % uint64(n))
}

func pick[T any](r *dice, l ...T) T { return l[r.next(len(l))] }

// piece: some bytes that a program may write, and, now and then, any.
func (r *dice) piece() string {
	switch r.next(12) {
	case 0, 1:
		return pick(r, "a", "bc", "q~", "defghij", " ", "some words that are longer")
	case 2:
		return pick(r, "中", "a한", "中文", "é", "\U0001F600", "中中中中中中中中", "\xe4", "\xf0\x9f\x98")
	case 3:
		return pick(r, "\n", "\n", "\r\n", "\t", "\b", "\r", "\x0e", "\x0f")
	case 4, 5, 6:
		s := "\x1b["
		for range r.next(4) {
			s += strconv.Itoa(r.next(9)) + pick(r, "", ";", ";")
		}
		return s + pick(r, "A", "B", "C", "G", "H", "H", "J", "K", "L", "M", "P", "S", "T", "X", "@", "d", "g", "m", "r", "n", "c", "", ":")
	case 7:
		return "\x1b[" + pick(r, "1", "4", "7", "31", "42", "44;1", "0", "") + "m"
	case 8:
		return "\x1b[?" + pick(r, "6", "7", "7", "25", "1049", "1049", "1049;25") + pick(r, "h", "h", "l")
	case 9:
		return "\x1b" + pick(r, "7", "7", "8", "8", "D", "E", "M", "H", "(0", "(B", ")0", ")B", "[4h", "[4l")
	case 10:
		return pick(r, "\x1b]0;name\x07", "\x1b]2;a longer name than there is room for, by some bytes\x1b\\", "\x1bP0;no", "\x1b]0;", "\x1b(", "\x1b) ", "\x1b", "\x1b", "\x1b]2;x\x1b", "\x1b[6n\x1b[5n\x1b[c", "\x1bc", "\x1b[3J")
	}
	b := ""
	for range r.next(6) {
		b += string([]byte{byte(r.next(256))})
	}
	return b
}

// side: about 1 to 9 most of the time, and now and then one far outside.
func (r *dice) side() int {
	if r.next(10) == 0 {
		return pick(r, math.MinInt, -1, 0, 1, 59, 60, 61, math.MaxInt)
	}
	return 1 + r.next(9)
}

// A deed is something that is done to terminals.
func (r *dice) deed() (string, func(x *term.Term)) {
	if r.next(12) == 0 {
		w, h := r.side(), r.side()
		return fmt.Sprintf("to %d by %d", w, h), func(x *term.Term) { x.Resize(w, h) }
	}
	if r.next(12) == 0 {
		return "take", func(x *term.Term) { x.Take() }
	}
	s := r.piece()
	return strconv.Quote(s), func(x *term.Term) { x.Write(s) }
}

// P11.1 and P11.2: whatever is done to a terminal, it has its bytes, and comes back from them; and to one that came back from them long ago, and to a copy, the same may be done with the same outcome.
func TestWhateverIsDone(t *testing.T) {
	seen := map[string]int{}
	for seed := range 400 {
		r := dice(seed)
		w, h := r.side(), r.side()
		x := term.New(w, h)
		back, again := state.Copy(x), state.Copy(x)
		what := fmt.Sprintf("of %d by %d", w, h)
		for range 50 {
			name, do := r.deed()
			what += " " + name
			do(x)
			do(back)
			do(again)
			expectSame(t, what+", one from its bytes", back, x)
			expectSame(t, what+", a copy", again, x)
			if !state.Same(x, back) || !state.Same(again, x) {
				t.Fatalf("%s: not the Same", what)
			}
			expectBytes(t, what, x)
			if r.next(5) == 0 {
				back, _ = state.Decode(state.Encode(back))
				again = state.Copy(again)
			}
			note(seen, x)
		}
	}
	for _, name := range []string{"Late", "Alt", "Back is full", "other widths", "under way", "state 0", "state 1", "state 2", "state 3", "state 4", "state 5", "state 6", "state 7", "params", "Title", "Reply", "not all go"} {
		if seen[name] < 50 {
			t.Errorf("%s was seen %d times", name, seen[name])
		}
	}
}

func note(seen map[string]int, x *term.Term) {
	for name, is := range map[string]bool{
		"Late": x.Cursor.Late, "Alt": x.Alt, "Back is full": len(x.Back) == api.MaxBack, "params": len(x.Parser.Params) > 1,
		"other widths": slices.ContainsFunc(x.Back, func(l []api.Cell) bool { return len(l) != x.W }),
		"under way":    x.Parser.Utf.N > 0, "Title": x.Title != "", "Reply": x.Reply != "", "not all go": x.End-x.Top < x.H,
	} {
		if is {
			seen[name]++
		}
	}
	seen[fmt.Sprintf("state %d", x.Parser.State)]++
}

// session: bytes that have something of all that a terminal does.
const session = "ab中c\x1b[31md\xe4\xb8x\r\n\x1b[?6h\x1b[2;3r\x1b]0;n中ame\x07\x1b[1;4;44mefghij\x1b7" +
	"\x1b[4hk\x1b(0qx\x0e\x1b)0q\x0f\x1b[2;2H\x1b[6n\x1b[?1049;25h한\x1b]2;t\x1b\\u\x1b[?7lvwxyz\x1b[3@\xf0\x9f\x98\x80" +
	"\x1b[?1049l\x1b8\x1b[5n\x1b[99999;3;;H\x1bP1;2q\x1b\\\x1bH\t\x1b[g\x1b[0K\x1b[S\x1b[r\n\n\n\x1bM\x1b[2L\x1b[?25l\x18\x1b[1;2\x1b[>3:4m\xff\x1bc文\x1b[c\x1b[3"

// P11.2: taken at each place of a session, a terminal goes on as if nothing had been.
func TestTakenAtEachPlace(t *testing.T) {
	for _, sides := range [][2]int{{1, 1}, {5, 4}, {60, 60}} {
		want := term.New(sides[0], sides[1])
		want.Write(session)
		smaller := state.Copy(want)
		smaller.Resize(3, 2)
		x := term.New(sides[0], sides[1])
		for i := range len(session) {
			what := fmt.Sprintf("%d by %d, behind %q", sides[0], sides[1], session[:i])
			y, e := state.Decode(state.Encode(x))
			if e != api.OK {
				t.Fatalf("%s: error %d", what, e)
			}
			y.Write(session[i:])
			expectSame(t, what, y, want)
			y.Resize(3, 2)
			expectSame(t, what+", smaller", y, smaller)
			x.Write(session[i : i+1])
		}
		expectBytes(t, "behind all", x)
	}
}

// rich: a terminal that has something in each list.
func rich() *term.Term {
	x := term.New(5, 3)
	x.Write("a中b\r\nc\n\n\n\x1b7\x1b[31md\x1b[?1049hef\x1b[5n\x1b]0;t\x07\x1b[?1;2")
	return x
}

// spoil: all that lists of a terminal hold is other.
func spoil(x *term.Term) {
	for _, lines := range [][][]api.Cell{x.Lines, x.Other.Lines, x.Back} {
		for y, l := range lines {
			for i := range l {
				l[i] = api.Cell{Rune: 'z', Style: api.Style{Bold: true, Fore: 7}}
			}
			lines[y] = nil
		}
	}
	for i := range x.Parser.Params {
		x.Parser.Params[i] = 77
	}
	*x.Grid, *x.Other = *term.New(1, 1).Grid, *term.New(1, 1).Grid
	*x = *term.New(1, 1)
}

// What becomes of the one becomes of nothing else.
func TestCopySharesNothing(t *testing.T) {
	want := rich()
	if len(want.Back) == 0 || len(want.Parser.Params) == 0 || !want.Alt {
		t.Fatal("there is too little of it")
	}
	for name, copied := range map[string]func(x *term.Term) *term.Term{
		"Copy":             state.Copy,
		"a copy of a copy": func(x *term.Term) *term.Term { return state.Copy(state.Copy(x)) },
		"Decode of Encode": func(x *term.Term) *term.Term { y, _ := state.Decode(state.Encode(x)); return y },
	} {
		x := rich()
		c := copied(x)
		expectSame(t, name, c, want)
		spoil(c)
		expectSame(t, name+": the copy is other", x, want)
		c = copied(x)
		spoil(x)
		expectSame(t, name+": the first one is other", c, want)
		// And by what programs and clients do.
		x = rich()
		c = copied(x)
		c.Write("HxyZ\x1b[?1049l\x1b[2Jq\n\n\n\n\x1b]2;u\x07\x1b[6n")
		c.Resize(2, 2)
		expectSame(t, name+": the copy is written to", x, want)
		c = copied(x)
		x.Write("HxyZ\x1b[?1049l\x1b[2Jq\n\n\n\n\x1b]2;u\x07\x1b[6n")
		x.Resize(2, 2)
		expectSame(t, name+": the first one is written to", c, want)
		if state.Same(c, x) {
			t.Errorf("%s: still the Same", name)
		}
	}
}

// No call changes what it is handed, nor keeps it.
func TestWhatIsHandedIn(t *testing.T) {
	x, want := rich(), rich()
	b := state.Encode(x)
	first := string(b)
	clear(b)
	if string(state.Encode(x)) != first {
		t.Error("what becomes of the bytes becomes of the next ones")
	}
	state.Same(x, term.New(2, 2))
	state.Copy(x)
	expectSame(t, "behind all calls", x, want)
	b = []byte(first)
	y, _ := state.Decode(b)
	clear(b)
	expectSame(t, "the bytes are other", y, want)
	b = append(make([]byte, 0, 4*len(first)), first...)
	y, _ = state.Decode(b)
	y.Write("H\x1b[?1049lmore and more\n\n\n")
	if string(b) != first || string(b[:cap(b)][len(b):]) != strings.Repeat("\x00", 3*len(first)) {
		t.Error("the bytes are other behind Decode")
	}
	// What Encode answers has no room that a later answer uses.
	one := state.Encode(x)
	two := state.Encode(x)
	_ = append(one, "more"...)
	if string(two) != first {
		t.Error("two answers share")
	}
}

// P0 and P4: bytes that look like chance, and terminals' bytes with some of them changed, left out or moved.
func TestAnyBytes(t *testing.T) {
	right := 0
	for seed := range 3000 {
		r := dice(seed)
		x := term.New(1+r.next(4), 1+r.next(3))
		for range r.next(6) {
			x.Write(r.piece())
		}
		b := []byte(modelBytes(x))
		for range 8 {
			c := slices.Clone(b)
			for range 1 + r.next(3) {
				i, j := r.next(len(c)+1), r.next(len(c)+1)
				i, j = min(i, j), max(i, j)
				switch r.next(6) {
				case 0:
					c = slices.Delete(c, i, min(j, i+3))
				case 1:
					c = slices.Insert(c, i, byte(r.next(256)), byte(r.next(4)))
				case 2:
					c = slices.Concat(c[:i], c[j:], c[i:j])
				default:
					if i < len(c) {
						c[i] = byte(pick(&r, r.next(256), r.next(8), int(c[i])+1, int(c[i])-1))
					}
				}
			}
			if expectModel(t, "changed", string(c)) {
				right++
			}
		}
		for i := range b {
			b[i] = byte(r.next(256) >> r.next(8))
		}
		expectModel(t, "any", string(b))
	}
	if right < 500 {
		t.Errorf("%d were right", right)
	}
}

// Of a Decoder that isn't right nothing is said, but that no call panics.
func TestDecodersThatAreNone(t *testing.T) {
	for _, n := range []int{math.MinInt, -1, 4, 5, math.MaxInt} {
		x := term.New(2, 1)
		x.Parser.Utf = utf.Decoder{Bytes: [3]byte{0xF0, 0x9F, 0x98}, N: n}
		state.Same(x, state.Copy(x))
		state.Encode(x)
	}
}
