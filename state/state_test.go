package state_test

import (
	"fmt"
	"slices"
	"strings"
	"testing"

	"flipbook/api"
	"flipbook/cell"
	"flipbook/state"
	"flipbook/term"
	"flipbook/utf"
	"flipbook/vt"
)

// A parts are a terminal's bytes in the chapter's eight parts.
type parts struct{ sides, modes, stops, cursors, lines, back, texts, parser string }

func (p parts) bytes() string {
	return p.sides + p.modes + p.stops + p.cursors + p.lines + p.back + p.texts + p.parser
}

const (
	noCursor = "\x00\x00\x00\x00"
	blankTwo = "\x02 \x00" // a blank line of two cells
)

// first: those of New(2, 1).
func first() parts {
	return parts{"\x02\x01\x00\x01", "\x01", "\x80\x82\x84\x88\x90\xa0\xc0\x80\x01", noCursor + noCursor + noCursor, blankTwo + blankTwo, "\x00", "\x00\x00", "\x00\x00\x00\x00\x00\x00"}
}

// A row is a terminal of two columns and one line that something is done to, and its bytes.
type row struct {
	name string
	do   func(x *term.Term)
	want func(p *parts)
}

func written(s string) func(x *term.Term) { return func(x *term.Term) { x.Write(s) } }

// expectRows: the terminals have these bytes, and the bytes these terminals.
func expectRows(t *testing.T, rows ...row) {
	t.Helper()
	for _, r := range rows {
		x, p := term.New(2, 1), first()
		r.do(x)
		r.want(&p)
		if got := string(state.Encode(x)); got != p.bytes() {
			t.Errorf("%s:\n% x, want\n% x", r.name, got, p.bytes())
		}
		y, e := state.Decode([]byte(p.bytes()))
		if e != api.OK {
			t.Errorf("%s: there is none of % x", r.name, p.bytes())
			continue
		}
		expectSame(t, r.name, y, x)
		expectBytes(t, r.name, x)
		if nothing := term.New(2, 1); len(differ(x, nothing)) > 0 && (state.Same(x, nothing) || state.Same(nothing, x)) {
			t.Errorf("%s: the Same as a new one", r.name)
		}
	}
}

func TestExamplesOfTheChapter(t *testing.T) {
	b := state.Encode(term.New(2, 1))
	if !strings.HasPrefix(string(b), "\x02\x01\x00\x01\x01") || string(b) != first().bytes() {
		t.Errorf("New(2, 1) has % x", b)
	}
	x := term.New(9, 4)
	x.Write("ab\x1b[31mc\n\n\n\n中\x1b[")
	y, e := state.Decode(state.Encode(x))
	if e != api.OK || !state.Same(x, y) || !state.Same(y, x) {
		t.Errorf("Decode of Encode: error %d, %v", e, y)
	}
}

func TestModes(t *testing.T) {
	mode := func(s, number string) row {
		return row{fmt.Sprintf("%q", s), written(s), func(p *parts) { p.modes = number }}
	}
	expectRows(t,
		mode("", "\x01"),
		mode("\x1b[?7l", "\x00"),
		mode("\x1b[?7l\x1b[?6h", "\x02"),
		mode("\x1b[?7l\x1b[4h", "\x04"),
		mode("\x1b[?7l\x1b[?25l", "\x08"),
		mode("\x1b[?7l\x1b[?1049h", "\x10"),
		mode("\x1b[?7l\x1b(0", "\x20"),
		mode("\x1b[?7l\x1b)0", "\x40"),
		mode("\x1b[?7l\x0e", "\x80\x01"),
		mode("\x1b[?6h", "\x03"),
		mode("\x1b(0\x1b)0\x0e", "\xe1\x01"),
		mode("\x1b[4h\x1b[?6h\x1b[?1049h\x1b[?25l\x0e\x1b(0\x1b)0", "\xff\x01"),
	)
}

// Each of the flags on and off, with each lot of others.
func TestEachLotOfModes(t *testing.T) {
	for n := range 256 {
		x := term.New(2, 1)
		for i, on := range []*bool{&x.Wrap, &x.Origin, &x.Insert, &x.Hidden, &x.Alt, &x.Draw[0], &x.Draw[1], &x.Shift} {
			*on = n>>i%2 == 1
		}
		p := first()
		p.modes = number(n)
		if got := string(state.Encode(x)); got != p.bytes() {
			t.Fatalf("modes %d: % x", n, got)
		}
		expectBytes(t, "modes", x)
	}
}

func TestTabStops(t *testing.T) {
	stops := func(s, number string) row {
		return row{fmt.Sprintf("%q", s), written(s), func(p *parts) { p.stops = number }}
	}
	tabs := func(columns ...int) func(x *term.Term) {
		return func(x *term.Term) {
			clear(x.Tabs[:])
			for _, c := range columns {
				x.Tabs[c] = true
			}
		}
	}
	every := make([]int, api.MaxSide)
	for i := range every {
		every[i] = i
	}
	expectRows(t,
		stops("\x1b[3g", "\x00"),
		stops("\x1b[3g\x1bH", "\x01"),
		stops("\x1bH", "\x81\x82\x84\x88\x90\xa0\xc0\x80\x01"),
		row{"at column 1", tabs(1), func(p *parts) { p.stops = "\x02" }},
		row{"at columns 7 and 8", tabs(7, 8), func(p *parts) { p.stops = "\x80\x03" }},
		row{"at column 58", tabs(58), func(p *parts) { p.stops = "\x80\x80\x80\x80\x80\x80\x80\x80\x04" }},
		row{"at column 59", tabs(59), func(p *parts) { p.stops = "\x80\x80\x80\x80\x80\x80\x80\x80\x08" }},
		row{"at all", tabs(every...), func(p *parts) { p.stops = "\xff\xff\xff\xff\xff\xff\xff\xff\x0f" }},
	)
	for c := range api.MaxSide {
		x := term.New(60, 1)
		tabs(c)(x)
		expectBytes(t, "a tab stop alone", x)
		x = term.New(1, 1)
		tabs(slices.Delete(slices.Clone(every), c, c+1)...)(x)
		expectBytes(t, "all tab stops but one", x)
	}
}

func TestCursors(t *testing.T) {
	const red = "\x1b[31m"
	expectRows(t,
		row{"at column 1", written("\x1b[2G"), func(p *parts) { p.cursors = "\x01\x00\x00\x00" + noCursor + noCursor }},
		row{"with a style", written(red), func(p *parts) { p.cursors = "\x00\x00\x00\x02" + noCursor + noCursor }},
		row{"with all of a style", written("\x1b[1;4;7;37;47m"), func(p *parts) { p.cursors = "\x00\x00\x00\x88\x0f" + noCursor + noCursor }},
		row{"Late", written("ab"), func(p *parts) {
			p.cursors, p.lines = "\x01\x00\x01\x00"+noCursor+noCursor, "\x01a\x00\x01b\x00"+blankTwo
		}},
		row{"saved", written(red + "\x1b[2G\x1b7\r\x1b[m"), func(p *parts) { p.cursors = noCursor + "\x01\x00\x00\x02" + noCursor }},
		row{"saved, Late", written("ab\x1b7\r"), func(p *parts) {
			p.cursors, p.lines = noCursor+"\x01\x00\x01\x00"+noCursor, "\x01a\x00\x01b\x00"+blankTwo
		}},
		row{"of the other screen", written(red + "\x1b[2G\x1b[?1049h\x1b[;H\x1b[m"), func(p *parts) {
			p.modes, p.cursors = "\x11", noCursor+noCursor+"\x01\x00\x00\x02"
		}},
		row{"of the other screen, Late", written("ab\x1b[?1049h\r"), func(p *parts) {
			p.modes, p.cursors, p.lines = "\x11", noCursor+noCursor+"\x01\x00\x01\x00", blankTwo+"\x01a\x00\x01b\x00"
		}},
	)
	x := term.New(60, 60)
	x.Write("\x1b[60;60H")
	if b := string(state.Encode(x)); !strings.HasPrefix(b, "\x3c\x3c\x00\x3c\x01\x80\x82\x84\x88\x90\xa0\xc0\x80\x01\x3b\x3b\x00\x00"+noCursor+noCursor+"\x3c \x00") {
		t.Errorf("the cursor in the last place of 60 by 60: % x", b[:40])
	}
}

// Each of the three cursors at each corner, Late where it may be, of each style.
func TestEachCursor(t *testing.T) {
	for _, sides := range [][2]int{{1, 1}, {2, 1}, {1, 3}, {60, 60}} {
		x := term.New(sides[0], sides[1])
		for which, c := range []*api.Cursor{&x.Cursor, &x.Saved, &x.Away} {
			for _, at := range [][2]int{{0, 0}, {x.W - 1, 0}, {0, x.H - 1}, {x.W - 1, x.H - 1}} {
				c.X, c.Y, c.Style = at[0], at[1], api.Style{Under: true, Fore: which, Back: 8 - which}
				expectBytes(t, "a cursor", x)
				c.Late = c.X == x.W-1
				expectBytes(t, "a cursor, Late", x)
				c.Late = false
			}
			if x.W > 2 {
				continue
			}
			for _, s := range styles() {
				c.Style = s
				expectBytes(t, "a cursor of each style", x)
			}
		}
	}
}

// styles: all that are right.
func styles() (l []api.Style) {
	for i := range 8 {
		for colour := range 81 {
			l = append(l, api.Style{Bold: i&1 != 0, Under: i&2 != 0, Turned: i&4 != 0, Fore: colour % 9, Back: colour / 9})
		}
	}
	return l
}

func TestLines(t *testing.T) {
	expectRows(t,
		row{"a rune", written("a\r"), func(p *parts) { p.lines = "\x01a\x00\x01 \x00" + blankTwo }},
		row{"the same twice", written("aa\r"), func(p *parts) { p.lines = "\x02a\x00" + blankTwo }},
		row{"a wide rune, and its rest", written("中\r"), func(p *parts) { p.lines = "\x01\xad\x9c\x01\x00\x01\x00\x00" + blankTwo }},
		row{"of a style", written("\x1b[31m中\r\x1b[m"), func(p *parts) { p.lines = "\x01\xad\x9c\x01\x02\x01\x00\x02" + blankTwo }},
		row{"of the screen that isn't shown", written("a\x1b[?1049h\rb\r"), func(p *parts) {
			p.modes, p.cursors, p.lines = "\x11", noCursor+noCursor+"\x01\x00\x00\x00", "\x01b\x00\x01 \x00"+"\x01a\x00\x01 \x00"
		}},
	)
	x := term.New(1, 3)
	x.Write("a\r\nb\r\nc\x1b[?1049h\x1b[Hd\x1b[3He\x1b[3g")
	if want := "\x01\x03\x00\x03\x11\x00" + "\x00\x02\x01\x00" + noCursor + "\x00\x02\x01\x00" + "\x01d\x00\x01 \x00\x01e\x00" + "\x01a\x00\x01b\x00\x01c\x00" + "\x00\x00\x00\x00\x00\x00\x00\x00\x00"; string(state.Encode(x)) != want {
		t.Errorf("three lines of one cell: % x", state.Encode(x))
	}
	expectBytes(t, "three lines of one cell", x)
}

func TestTheLinesThatGo(t *testing.T) {
	x := term.New(1, 4)
	x.Write("\x1b[2;3r")
	if b := string(state.Encode(x)); !strings.HasPrefix(b, "\x01\x04\x01\x03\x01") {
		t.Errorf("the second and the third line of four go: % x", b)
	}
	for h := 1; h <= 5; h++ {
		for top := range h {
			for end := top + 1; end <= h; end++ {
				x := term.New(1, h)
				x.Top, x.End = top, end
				expectBytes(t, "lines that go", x)
			}
		}
	}
}

func TestBack(t *testing.T) {
	back := func(l ...[]api.Cell) func(x *term.Term) { return func(x *term.Term) { x.Back = l } }
	of := func(w int, r rune) []api.Cell { return slices.Repeat([]api.Cell{{Rune: r}}, w) }
	expectRows(t,
		row{"a line", written("a\r\n"), func(p *parts) { p.back = "\x01" + "\x02\x01a\x00\x01 \x00" }},
		row{"two lines", written("a\r\nb\r\n"), func(p *parts) { p.back = "\x02" + "\x02\x01a\x00\x01 \x00" + "\x02\x01b\x00\x01 \x00" }},
		row{"of one cell", back(of(1, 'a')), func(p *parts) { p.back = "\x01" + "\x01\x01a\x00" }},
		row{"of sixty", back(of(60, 'a')), func(p *parts) { p.back = "\x01" + "\x3c\x3ca\x00" }},
		row{"a wide rune at the end", back(slices.Concat(of(1, 'a'), wideCells(api.Style{Fore: 8}))), func(p *parts) { p.back = "\x01" + "\x03\x01a\x00\x01\xad\x9c\x01\x08\x01\x00\x08" }},
		row{"of unlike widths", back(of(3, 'a'), of(1, 'b'), of(60, ' ')), func(p *parts) { p.back = "\x03" + "\x03\x03a\x00" + "\x01\x01b\x00" + "\x3c\x3c \x00" }},
		row{"as many as may be", written("a\r" + strings.Repeat("\n", 30)), func(p *parts) { p.back = "\x14" + strings.Repeat("\x02\x02 \x00", 20) }},
	)
	for n := range api.MaxBack + 1 {
		x := term.New(2, 1)
		for i := range n {
			x.Back = append(x.Back, of(1+59*i/19, 'a'+rune(i)))
		}
		expectBytes(t, "lines of Back", x)
	}
}

func wideCells(s api.Style) []api.Cell { return []api.Cell{{Rune: 0x4E2D, Style: s}, {Style: s}} }

// Wide runes and their rests at each place of a line, at its end too, of each style, on both screens and in Back.
func TestWideRunes(t *testing.T) {
	for _, w := range []int{2, 3, 60} {
		for at := range w - 1 {
			x := term.New(w, 2)
			for i, s := range []api.Style{{}, {Fore: 1}, {Bold: true, Under: true, Turned: true, Fore: 8, Back: 8}} {
				l := [][]api.Cell{x.Lines[0], x.Lines[1], x.Other.Lines[1]}[i]
				copy(l[at:], wideCells(s))
				x.Back = append(x.Back, slices.Clone(l))
			}
			expectBytes(t, "wide runes", x)
		}
	}
	x := term.New(60, 60)
	x.Write("\x1b[44m" + strings.Repeat("中", 30*60) + "\x1b[?1049h" + strings.Repeat("a한", 20*60))
	expectBytes(t, "full of wide runes", x)
}

func TestTexts(t *testing.T) {
	long, most := strings.Repeat("t", 40), strings.Repeat("\x1b[0n", 100)
	text := func(title, reply, want string) row {
		return row{want, func(x *term.Term) { x.Title, x.Reply = title, reply }, func(p *parts) { p.texts = want }}
	}
	expectRows(t,
		row{"a title", written("\x1b]0;ab\x07"), func(p *parts) { p.texts = "\x02ab\x00" }},
		row{"a reply", written("\x1b[5n"), func(p *parts) { p.texts = "\x00\x04\x1b[0n" }},
		text("a", "b", "\x01a\x01b"),
		text("\x00\xff\x1b", "\xc3", "\x03\x00\xff\x1b\x01\xc3"),
		text(long[1:], "", "\x27"+long[1:]+"\x00"),
		text(long, "", "\x28"+long+"\x00"),
		text("", most[1:], "\x00\x8f\x03"+most[1:]),
		text("", most, "\x00\x90\x03"+most),
		text(long, most, "\x28"+long+"\x90\x03"+most),
		row{"the most that may be answered", written(strings.Repeat("\x1b[5n", 101)), func(p *parts) { p.texts = "\x00\x90\x03" + most }},
	)
}

func TestParsers(t *testing.T) {
	long := strings.Repeat("x", 40)
	amid := func(s, want string) row {
		return row{fmt.Sprintf("%q", s), written(s), func(p *parts) { p.parser = want }}
	}
	expectRows(t,
		amid("", "\x00\x00\x00\x00\x00\x00"),
		amid("\xc3", "\x00\x00\x01\xc3\x00\x00\x00"),
		amid("\xe4\xb8", "\x00\x00\x02\xe4\xb8\x00\x00\x00"),
		amid("\xf0\x9f\x98", "\x00\x00\x03\xf0\x9f\x98\x00\x00\x00"),
		amid("\x1b", "\x01\x00\x00\x00\x00\x00"),
		amid("\x1b(", "\x02\x00\x00\x01(\x00\x00"),
		amid("\x1b( ", "\x02\x00\x00\x02( \x00\x00"),
		amid("\x1b[", "\x03\x00\x00\x00\x00\x00"),
		amid("\x1b[?", "\x03\x00\x00\x01?\x00\x00"),
		amid("\x1b[>!", "\x03\x00\x00\x02>!\x00\x00"),
		amid("\x1b[0", "\x03\x00\x00\x00\x01\x00\x00"),
		amid("\x1b[?12;345", "\x03\x00\x00\x01?\x02\x0c\xd9\x02\x00"),
		amid("\x1b[9999;", "\x03\x00\x00\x00\x02\x8f\x4e\x00\x00"),
		amid("\x1b[1;2;3;4;5;6;7;99999", "\x03\x00\x00\x00\x08\x01\x02\x03\x04\x05\x06\x07\x8f\x4e\x00"),
		amid("\x1b[:", "\x04\x00\x00\x00\x00\x00"),
		amid("\x1b[?1;2:", "\x04\x00\x00\x01?\x02\x01\x02\x00"),
		amid("\x1b]", "\x05\x00\x00\x00\x00\x00"),
		amid("\x1b]0;ab", "\x05\x00\x00\x00\x00\x040;ab"),
		amid("\x1b]"+long+"y", "\x05\x00\x00\x00\x00\x28"+long),
		amid("\x1bP", "\x06\x00\x00\x00\x00\x00"),
		amid("\x1bP\xffa", "\x06\x00\x00\x00\x00\x02\xffa"),
		amid("\x1bP"+long, "\x06\x00\x00\x00\x00\x28"+long),
		amid("\x1b]\x1b", "\x07\x05\x00\x00\x00\x00"),
		amid("\x1bP\x1b", "\x07\x06\x00\x00\x00\x00"),
		amid("\x1b]2;a\x1b", "\x07\x05\x00\x00\x00\x032;a"),
		amid("\x1bP"+long+"\x1b", "\x07\x06\x00\x00\x00\x28"+long),
	)
}

// Each parser that may be of each state, by hand.
func TestEachParser(t *testing.T) {
	texts := []string{"", "a", strings.Repeat("\xff", 40)}
	var l []vt.Parser
	for _, s := range []string{"", "\xc3", "\xdf", "\xe0\xa0", "\xed\x9f", "\xf4", "\xf4\x8f", "\xf4\x8f\xbf"} {
		d := utf.Decoder{}
		d.N = copy(d.Bytes[:], s)
		l = append(l, vt.Parser{Utf: d})
	}
	l = append(l, vt.Parser{State: vt.Escape}, vt.Parser{State: vt.Marks, Marks: " "}, vt.Parser{State: vt.Marks, Marks: "//"})
	for _, s := range []int{vt.Entry, vt.Strange} {
		for _, marks := range []string{"", "?", "<", " ", "?/"} {
			for n := range api.MaxParams + 1 {
				l = append(l, vt.Parser{State: s, Marks: marks, Params: make([]int, n)}, vt.Parser{State: s, Marks: marks, Params: slices.Repeat([]int{9999}, n)})
			}
		}
	}
	for _, s := range texts {
		l = append(l, vt.Parser{State: vt.String, Text: s}, vt.Parser{State: vt.Device, Text: s})
		l = append(l, vt.Parser{State: vt.Closing, Within: vt.String, Text: s}, vt.Parser{State: vt.Closing, Within: vt.Device, Text: s})
	}
	for i, p := range l {
		for j, q := range l {
			a, b := term.New(2, 1), term.New(2, 1)
			a.Parser, b.Parser = p, q
			if state.Same(a, b) != sameParser(p, q) {
				t.Errorf("%+v and %+v: Same is %v", p, q, state.Same(a, b))
			}
			if i == j {
				expectBytes(t, "a parser", a)
			}
		}
	}
}

// Same is false of two that have one thing unlike, whichever it is.
func TestSame(t *testing.T) {
	begin := func() *term.Term {
		x := term.New(3, 3)
		x.Write("a中\r\nb\n\n\x1b[5n\x1b]0;t\x07\x1b[?1;2")
		return x
	}
	changes := map[string]func(x *term.Term){
		"nothing":    func(x *term.Term) {},
		"a cell":     func(x *term.Term) { x.Lines[2][2].Rune = 'z' },
		"its style":  func(x *term.Term) { x.Lines[2][2].Style.Turned = true },
		"Other":      func(x *term.Term) { x.Other.Lines[0][0].Rune = 'z' },
		"Cursor":     func(x *term.Term) { x.Cursor.X = 0 },
		"its line":   func(x *term.Term) { x.Cursor.Y = 0 },
		"Saved":      func(x *term.Term) { x.Saved.Style.Bold = true },
		"its column": func(x *term.Term) { x.Saved.X = 1 },
		"Away":       func(x *term.Term) { x.Away.X = 2 },
		"Late":       func(x *term.Term) { x.Away.X, x.Away.Late = 2, true },
		"Top":        func(x *term.Term) { x.Top = 1 },
		"End":        func(x *term.Term) { x.End = 2 },
		"Tabs":       func(x *term.Term) { x.Tabs[59] = true },
		"Wrap":       func(x *term.Term) { x.Wrap = false },
		"Origin":     func(x *term.Term) { x.Origin = true },
		"Insert":     func(x *term.Term) { x.Insert = true },
		"Hidden":     func(x *term.Term) { x.Hidden = true },
		"Draw":       func(x *term.Term) { x.Draw[0] = true },
		"the second": func(x *term.Term) { x.Draw[1] = true },
		"Shift":      func(x *term.Term) { x.Shift = true },
		"Alt":        func(x *term.Term) { x.Alt = true },
		"Title":      func(x *term.Term) { x.Title = "u" },
		"no Title":   func(x *term.Term) { x.Title = "" },
		"Back":       func(x *term.Term) { x.Back = nil },
		"a line":     func(x *term.Term) { x.Back[0] = x.Back[0][:1] },
		"its cell":   func(x *term.Term) { x.Back[0][0].Rune = 'z' },
		"State":      func(x *term.Term) { x.Parser.State = vt.Strange },
		"Params":     func(x *term.Term) { x.Parser.Params[1] = 3 },
		"a mark":     func(x *term.Term) { x.Parser.Marks = ">" },
		"Reply":      func(x *term.Term) { x.Reply += "\x1b[0n" },
		"no Reply":   func(x *term.Term) { x.Take() },
		"sides":      func(x *term.Term) { x.Resize(3, 4) },
		"less":       func(x *term.Term) { x.Resize(2, 3) },
	}
	for name, change := range changes {
		for other, another := range changes {
			a, b := begin(), begin()
			change(a)
			another(b)
			want := name == other
			if len(differ(a, b)) == 0 != want || state.Same(a, b) != want || state.Same(b, a) != want {
				t.Errorf("%s and %s: Same is %v, %v", name, other, state.Same(a, b), state.Same(b, a))
			}
		}
	}
	// Lists of none are the same whether or not they are nil.
	a, b := term.New(2, 2), term.New(2, 2)
	b.Back, b.Parser.Params = [][]api.Cell{}, []int{}
	if !state.Same(a, b) || !state.Same(a, a) {
		t.Error("two new ones aren't the Same")
	}
}

func TestSixtyBySixty(t *testing.T) {
	x := term.New(60, 60)
	x.Back = slices.Repeat([][]api.Cell{slices.Clone(x.Lines[0])}, api.MaxBack)
	l := styles()
	for i := range 60 * 60 {
		x.Lines[i/60][i%60] = api.Cell{Rune: rune(' ' + i%90), Style: l[i%len(l)]}
		x.Other.Lines[i/60][i%60] = api.Cell{Rune: 0x10FFFF - rune(i), Style: l[(i+7)%len(l)]}
		x.Back[i/60%20] = x.Lines[i/60]
	}
	if !cell.Whole(x.Lines[59]) {
		t.Fatal("not whole")
	}
	expectBytes(t, "60 by 60, no two cells the same", x)
}
