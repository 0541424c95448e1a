package term_test

import (
	"fmt"
	"testing"

	"flipbook/api"
	"flipbook/grid"
	"flipbook/term"
)

// modes: those that are on, by their letters: Wrap, Origin, Insert, Hidden, Alt.
func modes(x *term.Term) (s string) {
	for i, on := range []bool{x.Wrap, x.Origin, x.Insert, x.Hidden, x.Alt} {
		if on {
			s += "WOIHA"[i : i+1]
		}
	}
	return s
}

func TestModes(t *testing.T) {
	for _, x := range []struct{ bytes, want string }{
		{"", "W"},
		{"\x1b[?7l", ""}, {"\x1b[?7l\x1b[?7l", ""}, {"\x1b[?7l\x1b[?7h", "W"}, {"\x1b[?7h", "W"},
		{"\x1b[?6h", "WO"}, {"\x1b[?6h\x1b[?6h", "WO"}, {"\x1b[?6h\x1b[?6l", "W"}, {"\x1b[?6l", "W"},
		{"\x1b[?25l", "WH"}, {"\x1b[?25l\x1b[?25l", "WH"}, {"\x1b[?25l\x1b[?25h", "W"}, {"\x1b[?25h", "W"},
		{"\x1b[?1049h", "WA"}, {"\x1b[?1049h\x1b[?1049h", "WA"}, {"\x1b[?1049h\x1b[?1049l", "W"}, {"\x1b[?1049l", "W"},
		{"\x1b[4h", "WI"}, {"\x1b[4h\x1b[4h", "WI"}, {"\x1b[4h\x1b[4l", "W"}, {"\x1b[4l", "W"}, {"\x1b[4;7h", "WI"},
		// Several in one sequence, in their order; of those without the mark the first one alone.
		{"\x1b[?6;7;25;1049h", "WOA"}, {"\x1b[?6;7;25;1049l", "H"}, {"\x1b[?25;7l", "H"}, {"\x1b[?;6;0;99;7l\x1b[?1;6h", "O"},
		{"\x1b[7;4h", "W"}, {"\x1b[;4h", "W"}, {"\x1b[4h\x1b[7;4l", "WI"},
		{"\x1b[?6;6;6;6;6;6;6;25l", "WH"}, {"\x1b[?6;6;6;6;6;6;6;6;25l", "W"},
		// Others change nothing.
		{"\x1b[?h\x1b[?l\x1b[h\x1b[l", "W"}, {"\x1b[?0h\x1b[?1h\x1b[?2h\x1b[?4h\x1b[?5h\x1b[?8h\x1b[?24h\x1b[?47h\x1b[?1047h\x1b[?1048h\x1b[?1050h\x1b[?9999h", "W"},
		{"\x1b[?0l\x1b[?1l\x1b[?4l\x1b[?5l\x1b[?8l\x1b[?26l\x1b[?9999l", "W"}, {"\x1b[6h\x1b[25h\x1b[1049h\x1b[3h\x1b[5h\x1b[20h", "W"}, {"\x1b[6l\x1b[7l\x1b[25l\x1b[0l", "W"},
		{"\x1b[>7l\x1b[??7l\x1b[?$7l\x1b[ 4h\x1b[>4h\x1b[??6h\x1b[<25l", "W"}, {"\x1b[?6i\x1b[?6H\x1b[?7L\x1b[?25m\x1b[?1049r", "W"},
	} {
		y := term.New(4, 3)
		y.Write(x.bytes)
		if got := modes(y); got != x.want {
			t.Errorf("%q: %q, want %q", x.bytes, got, x.want)
		}
		sound(t, x.bytes, y)
	}
}

// What modes do to the cursor.
func TestModesAndTheCursor(t *testing.T) {
	expectRows(t, 4, 5,
		row{"Origin on", "\x1b[2;4r\x1b[3;3H\x1b[?6h", "|||| @0,1"},
		row{"Origin on twice", "\x1b[2;4r\x1b[?6h\x1b[3;3H\x1b[?6h", "|||| @0,1"},
		row{"Origin off", "\x1b[2;4r\x1b[?6h\x1b[3;3H\x1b[?6l", "|||| @0,0"},
		row{"Origin off, where it is off", "\x1b[3;3H\x1b[?6l", "|||| @0,0"},
		row{"Origin on, Late", "abcd\x1b[?6h", "abcd|||| @0,0"},
		row{"Wrap off, Late", "abcd\x1b[?7l", "abcd|||| @3,0"},
		row{"Wrap off and on, Late", "abcd\x1b[?7l\x1b[?7hx", "abcx|||| @3,0L"},
		row{"Wrap on, Late", "abcd\x1b[?7h", "abcd|||| @3,0L"},
		row{"Wrap on, Late without it", "abcd" + lateWithoutWrap + "\x1b[?7h", "abcd|||| @3,0L"},
		row{"Wrap off twice, Late without it", "abcd" + lateWithoutWrap + "\x1b[?7l", "abcd|||| @3,0"},
		row{"Wrap off, not Late", "abc\x1b[?7l", "abc|||| @3,0"},
		row{"Hidden, Late", "abcd\x1b[?25l", "abcd|||| @3,0L"},
		row{"Hidden and not, Late", "abcd\x1b[?25l\x1b[?25h", "abcd|||| @3,0L"},
		row{"Insert, Late", "abcd\x1b[4h", "abcd|||| @3,0L"},
		row{"others, Late", "abcd\x1b[?5h\x1b[?1l\x1b[3h\x1b[h\x1b[?l", "abcd|||| @3,0L"},
		row{"several: home by the lines that go, each by Origin as it is then", "\x1b[2;4r\x1b[3;3H\x1b[?6;7h", "|||| @0,1"},
	)
}

// both: the screen that is shown, with its cursor, and the other one, with its.
func both(x *term.Term) string {
	return fmt.Sprintf("%s / %s @%s", shown(x), texts(x.Other.Lines), place(x.Away))
}

const alt, noAlt = "\x1b[?1049h", "\x1b[?1049l"

func TestTheSecondScreen(t *testing.T) {
	for _, x := range []struct{ name, bytes, want string }{
		{"at first", "", "| @0,0 / | @0,0"},
		{"on", "ab\r\nc" + alt, "| @1,1 / ab|c @1,1"},
		{"on, Late", "abc" + alt, "| @2,0L / abc| @2,0L"},
		{"on, Late, and one rune", "abc" + alt + "d", "|d @1,1 / abc| @2,0L"},
		{"on, and written", "ab" + alt + "d\r\ne", "  d|e @1,1 / ab| @2,0"},
		{"on and off", "ab" + alt + "d\r\ne" + noAlt, "ab| @2,0 /   d|e @1,1"},
		{"on, off, on", "ab" + alt + "d\r\ne" + noAlt + "c" + alt, "| @2,0L / abc| @2,0L"},
		{"on, off, on, off", "ab" + alt + "d\r\ne" + noAlt + "c" + alt + "\rx" + noAlt, "abc| @2,0L / x| @1,0"},
		{"on twice", "ab" + alt + "d\r\ne" + alt, "  d|e @1,1 / ab| @2,0"},
		{"on twice in one sequence", "ab\x1b[?1049;1049h", "| @2,0 / ab| @2,0"},
		{"off twice", "ab" + alt + "d" + noAlt + "\rx" + noAlt, "xb| @1,0 /   d| @2,0L"},
		{"off at first", "ab" + noAlt, "ab| @2,0 / | @0,0"},
		{"with others, in order", "ab\x1b[?6;1049h", "| @0,0 / ab| @0,0"},
		{"with others, the other way round", "ab\x1b[?1049;6h", "| @0,0 / ab| @2,0"},
		{"back, with others", "ab" + alt + "x\x1b[?1049;7l", "ab| @2,0 /   x| @2,0L"},
		{"the saved cursor is that of both", "ab\x1b7" + alt + "\r\nx\x1b8y", "  y|x @2,0L / ab| @2,0"},
		{"saved on the second one", "ab" + alt + "\x1b[2;3H\x1b7" + noAlt + "\x1b8x", "ab|  x @2,1L / | @2,1"},
		{"lines go on both", "a\r\nb\r\nc" + alt + "d\r\ne\r\nf", "e|f @1,1 / b|c @1,1"},
	} {
		y := term.New(3, 2)
		y.Write(x.bytes)
		if got := both(y); got != x.want {
			t.Errorf("%s: %q: %s, want %s", x.name, x.bytes, got, x.want)
		}
		sound(t, x.name, y)
	}
}

func TestTheSecondScreensStyles(t *testing.T) {
	x := term.New(3, 2)
	red, blue := api.Style{Fore: 2, Back: 4}, api.Style{Fore: 5}
	x.Write("\x1b[31;43mab" + alt)
	if !grid.Same(x.Grid, grid.New(3, 2)) || x.Cursor != (api.Cursor{X: 2, Style: red}) || x.Away != x.Cursor {
		t.Errorf("it isn't blank, or has another cursor: %s", all(x))
	}
	x.Write("\x1b[0;34mc")
	if x.At(2, 0) != (api.Cell{Rune: 'c', Style: blue}) || x.Away.Style != red {
		t.Error(all(x))
	}
	x.Write(noAlt)
	if x.Cursor != (api.Cursor{X: 2, Style: red}) || x.Away != (api.Cursor{X: 2, Late: true, Style: blue}) || x.At(0, 0) != (api.Cell{Rune: 'a', Style: red}) {
		t.Error(all(x))
	}
	// What isn't the screens' and their cursors' is of both.
	x = term.New(3, 3)
	x.Write("\x1b[2;3r\x1b[?6;25h\x1b[?7;25l\x1b[4h\x1b(0\x0e\x1b]0;n\x07\x1b[3g\x1b[5n" + alt)
	if x.Top != 1 || x.End != 3 || modes(x) != "OIHA" || x.Draw != [2]bool{true, false} || !x.Shift || x.Title != "n" || x.Tabs != [api.MaxSide]bool{} || x.Reply != "\x1b[0n" {
		t.Error(all(x))
	}
}
