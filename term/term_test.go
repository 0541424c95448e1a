package term_test

import (
	"fmt"
	"math"
	"slices"
	"strings"
	"testing"

	"flipbook/api"
	"flipbook/cell"
	"flipbook/grid"
	"flipbook/term"
	"flipbook/vt"
)

func sameLines(a, b [][]api.Cell) bool { return slices.EqualFunc(a, b, slices.Equal) }

func sameParser(a, b vt.Parser) bool {
	return a.State == b.State && a.Utf == b.Utf && a.Marks == b.Marks && slices.Equal(a.Params, b.Params) && a.Text == b.Text && a.Within == b.Within
}

// differ: the names of what two terminals don't have alike.
func differ(a, b *term.Term) (names []string) {
	for _, x := range []struct {
		name string
		same bool
	}{
		{"the screen", grid.Same(a.Grid, b.Grid)}, {"Other", grid.Same(a.Other, b.Other)},
		{"Cursor", a.Cursor == b.Cursor}, {"Saved", a.Saved == b.Saved}, {"Away", a.Away == b.Away},
		{"Top", a.Top == b.Top}, {"End", a.End == b.End}, {"Tabs", a.Tabs == b.Tabs},
		{"Wrap", a.Wrap == b.Wrap}, {"Origin", a.Origin == b.Origin}, {"Insert", a.Insert == b.Insert}, {"Hidden", a.Hidden == b.Hidden},
		{"Draw", a.Draw == b.Draw}, {"Shift", a.Shift == b.Shift}, {"Alt", a.Alt == b.Alt},
		{"Title", a.Title == b.Title}, {"Back", sameLines(a.Back, b.Back)}, {"Parser", sameParser(a.Parser, b.Parser)}, {"Reply", a.Reply == b.Reply},
	} {
		if !x.same {
			names = append(names, x.name)
		}
	}
	return names
}

func expectSame(t *testing.T, what string, got, want *term.Term) {
	t.Helper()
	if names := differ(got, want); len(names) > 0 {
		t.Fatalf("%s: not alike: %v\n%s\nwant\n%s", what, names, all(got), all(want))
	}
}

// all: what a terminal has, to be read where a test fails.
func all(x *term.Term) string {
	plain := *x
	plain.Grid, plain.Other = nil, nil
	return fmt.Sprintf("%s\nother %s\n%+v", texts(x.Lines), texts(x.Other.Lines), plain)
}

// texts: lines as their runes, < for a rest, without the blanks at their ends, | between them.
func texts(lines [][]api.Cell) string {
	var out []string
	for _, l := range lines {
		s := ""
		for _, c := range l {
			if c.Rune == 0 {
				c.Rune = '<'
			}
			s += string(c.Rune)
		}
		out = append(out, strings.TrimRight(s, " "))
	}
	return strings.Join(out, "|")
}

// place: a cursor's column and line, from 0 on, and L where it waits behind the last column.
func place(c api.Cursor) string {
	s := fmt.Sprintf("%d,%d", c.X, c.Y)
	if c.Late {
		s += "L"
	}
	return s
}

// shown: the screen and the cursor of a terminal.
func shown(x *term.Term) string { return texts(x.Lines) + " @" + place(x.Cursor) }

// sound: what P10.3 promises of each terminal.
func sound(t *testing.T, what string, x *term.Term) {
	t.Helper()
	for _, c := range []api.Cursor{x.Cursor, x.Saved, x.Away} {
		if c.X < 0 || c.X >= x.W || c.Y < 0 || c.Y >= x.H || c.Late && c.X != x.W-1 || !cell.Style(c.Style) {
			t.Fatalf("%s: a cursor at %s of %d by %d, %+v", what, place(c), x.W, x.H, c.Style)
		}
	}
	for _, g := range []*grid.Grid{x.Grid, x.Other} {
		if g.W != x.W || g.H != x.H || g.W < 1 || g.W > api.MaxSide || g.H < 1 || g.H > api.MaxSide || len(g.Lines) != g.H {
			t.Fatalf("%s: a screen of %d by %d, with %d lines", what, g.W, g.H, len(g.Lines))
		}
		for y, l := range g.Lines {
			if len(l) != g.W || !cell.Whole(l) {
				t.Fatalf("%s: line %d of %d columns: %v", what, y, g.W, l)
			}
		}
	}
	if x.Top < 0 || x.Top >= x.End || x.End > x.H {
		t.Fatalf("%s: the lines from %d up to %d of %d go", what, x.Top, x.End, x.H)
	}
	if len(x.Back) > api.MaxBack || len(x.Reply) > api.MaxData || len(x.Title) > api.MaxText || !x.Parser.Right() {
		t.Fatalf("%s: %d lines went out, Reply %q, Title %q, %+v", what, len(x.Back), x.Reply, x.Title, x.Parser)
	}
	for _, l := range x.Back {
		if len(l) < 1 || len(l) > api.MaxSide || !cell.Whole(l) {
			t.Fatalf("%s: there went out %v", what, l)
		}
	}
}

// A row: bytes written to a new terminal, and what it shows behind them.
type row struct{ name, bytes, want string }

// expectRows: the screen and the cursor behind the bytes, of a terminal of these sides.
func expectRows(t *testing.T, w, h int, rows ...row) {
	t.Helper()
	for _, r := range rows {
		x := term.New(w, h)
		x.Write(r.bytes)
		if got := shown(x); got != r.want {
			t.Errorf("%s: %q: %s, want %s", r.name, r.bytes, got, r.want)
		}
		sound(t, r.name, x)
	}
}

// far: numbers at which sides end, and far outside.
func far() []int {
	return []int{math.MinInt, math.MinInt + 1, math.MinInt32, -61, -60, -2, -1, 0, 1, 2, 8, 9, 17, 59, 60, 61, 62, math.MaxInt32, math.MaxInt - 1, math.MaxInt}
}

func TestNew(t *testing.T) {
	for _, w := range far() {
		for _, h := range far() {
			x := term.New(w, h)
			wantW, wantH := min(max(w, 1), 60), min(max(h, 1), 60)
			if x.W != wantW || x.H != wantH {
				t.Fatalf("New(%d, %d): %d by %d", w, h, x.W, x.H)
			}
			sound(t, "New", x)
			expectFirst(t, x)
		}
	}
}

// expectFirst: each thing of a terminal is as at first.
func expectFirst(t *testing.T, x *term.Term) {
	t.Helper()
	blank := grid.New(x.W, x.H)
	if !grid.Same(x.Grid, blank) || !grid.Same(x.Other, blank) {
		t.Errorf("the screens are %v, %v", x.Lines, x.Other.Lines)
	}
	if zero := (api.Cursor{}); x.Cursor != zero || x.Saved != zero || x.Away != zero {
		t.Errorf("the cursors are %v, %v, %v", x.Cursor, x.Saved, x.Away)
	}
	if x.Top != 0 || x.End != x.H {
		t.Errorf("the lines from %d up to %d of %d go", x.Top, x.End, x.H)
	}
	for i, stop := range x.Tabs {
		if want := i == 8 || i == 16 || i == 24 || i == 32 || i == 40 || i == 48 || i == 56; stop != want {
			t.Errorf("a tab stop at %d: %v", i, stop)
		}
	}
	if !x.Wrap || x.Origin || x.Insert || x.Hidden || x.Draw != [2]bool{} || x.Shift || x.Alt {
		t.Errorf("the modes are %s", all(x))
	}
	if x.Title != "" || len(x.Back) != 0 || x.Reply != "" || !sameParser(x.Parser, vt.Parser{}) {
		t.Errorf("there is %s", all(x))
	}
}

func TestExamplesOfTheChapter(t *testing.T) {
	expectRows(t, 5, 3,
		row{"the third column of the second line", "\x1b[2;3Hx", "|  x| @3,1"},
		row{"a wide rune in the last column", "\x1b[1;5H中", "|中<| @2,1"},
	)
}

func TestTakeAndWriteOfNothing(t *testing.T) {
	x := term.New(3, 2)
	if s := x.Take(); s != "" {
		t.Errorf("a new one answers %q", s)
	}
	x.Write("")
	x.Write("a\x1b[5n\x1b[")
	was := *x
	x.Write("")
	expectSame(t, "behind no bytes", x, &was)
	if s := x.Take(); s != "\x1b[0n" || x.Reply != "" || shown(x) != "a| @1,0" {
		t.Errorf("it answers %q, and %q is left; %s", s, x.Reply, shown(x))
	}
	if s := x.Take(); s != "" {
		t.Errorf("it answers %q twice", s)
	}
	x.Write("c\x1b[6n")
	if s := x.Take(); s != "\x1b[?6c\x1b[1;2R" {
		t.Errorf("the sequence that was under way: it answers %q", s)
	}
}

// The screen, its lines and those that went out are each terminal's own.
func TestNothingIsShared(t *testing.T) {
	x, y := term.New(3, 2), term.New(3, 2)
	x.Write("abc\r\ndef\r\nghi\x1b[?1049hjkl\x1b7\x1b[3g\x1b]0;t\x07")
	expectFirst(t, y)
	if texts(x.Other.Lines) != "def|ghi" || texts(x.Back) != "abc" {
		t.Fatal(all(x))
	}
	x.Write("\x1b[?1049l")
	for i := range x.Back[0] {
		x.Back[0][i].Rune = 'z'
	}
	_ = append(x.Back, nil)
	if shown(x) != "def|ghi @2,1L" {
		t.Errorf("the lines that went out are those of the screen: %s", shown(x))
	}
	x.Write("\x1b[Hmnopqr")
	x.Resize(2, 1)
	x.Write("\x1b[Hst")
	if texts(x.Back) != "zzz|mno" || shown(x) != "st @1,0L" {
		t.Errorf("there went out %s; %s", texts(x.Back), shown(x))
	}
}
