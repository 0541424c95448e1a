package term_test

import (
	"fmt"
	"math"
	"slices"
	"testing"

	"flipbook/api"
	"flipbook/term"
)

// A row of Resize: what was written, the new sides, both screens with their cursors behind it, and what went out.
type sized struct {
	name, bytes string
	w, h        int
	want, back  string
}

func TestResize(t *testing.T) {
	for _, x := range []sized{
		{"the same sides", five, 4, 5, "a|b|c|d|e @1,4 / |||| @0,0", ""},
		{"more columns", five, 6, 5, "a|b|c|d|e @1,4 / |||| @0,0", ""},
		{"fewer columns", five, 2, 5, "a|b|c|d|e @1,4 / |||| @0,0", ""},
		{"one column", five, 1, 5, "a|b|c|d|e @0,4 / |||| @0,0", ""},
		{"more lines", five, 4, 7, "a|b|c|d|e|| @1,4 / |||||| @0,0", ""},
		{"fewer lines, the cursor in the last one", five, 4, 3, "c|d|e @1,2 / || @0,0", "a|b"},
		{"one line, the cursor in the last one", five, 4, 1, "e @1,0 /  @0,0", "a|b|c|d"},
		{"fewer lines, the cursor just within", five + "\x1b[3;2H", 4, 3, "a|b|c @1,2 / || @0,0", ""},
		{"fewer lines, the cursor one line too far", five + "\x1b[4;2H", 4, 3, "b|c|d @1,2 / || @0,0", "a"},
		{"fewer lines, the cursor in the first one", five + "\x1b[1;2H", 4, 2, "a|b @1,0 / | @0,0", ""},
		{"one line, the cursor in the first one", five + "\x1b[1;2H", 4, 1, "a @1,0 /  @0,0", ""},
		{"fewer of both", "abcd\r\nefgh\r\nij", 3, 2, "efg|ij @2,1 / | @0,0", "abcd"},
		{"sides of 0", five, 0, 0, "e @0,0 /  @0,0", "a|b|c|d"},
		{"sides below 0", five, -1, math.MinInt, "e @0,0 /  @0,0", "a|b|c|d"},
		{"a wide one is cut", "a中b\r\nc", 2, 5, "a|c||| @1,1 / |||| @0,0", ""},
		{"a wide one is not cut", "a中b\r\nc", 3, 5, "a中<|c||| @1,1 / |||| @0,0", ""},
		{"Late, the same columns", "abcd", 4, 3, "abcd|| @3,0L / || @0,0", ""},
		{"Late, the same columns, fewer lines", five + "fgh", 4, 2, "d|efgh @3,1L / | @0,0", "a|b|c"},
		{"Late, more columns", "abcd", 5, 5, "abcd|||| @3,0 / |||| @0,0", ""},
		{"Late, fewer columns", "abcd", 3, 5, "abc|||| @2,0 / |||| @0,0", ""},
		{"not Late, in the column that is the last one then", "ab\x1b[3G", 3, 5, "ab|||| @2,0 / |||| @0,0", ""},
		{"not Late, in the last column", "\x1b[4G", 4, 4, "||| @3,0 / ||| @0,0", ""},
		{"with Alt", five + alt + "\x1b[H" + five, 4, 3, "c|d|e @1,2 / a|b|c @1,2", ""},
		{"with Alt, the cursor in the first line", five + alt + "\x1b[H" + five + "\x1b[H", 4, 3, "a|b|c @0,0 / a|b|c @1,2", ""},
		{"with Alt, the other cursor in the first line", five + "\x1b[H" + alt + five, 4, 2, "d|e @1,1 / a|b @0,0", ""},
		{"behind Alt", "ab" + alt + "\x1b[5;3Hx" + noAlt, 4, 2, "ab| @2,0 / | @3,1", ""},
		{"behind Alt, Late", "ab" + alt + "\x1b[5;4Hx" + noAlt, 4, 4, "ab||| @2,0 / ||| @3,3L", ""},
		{"behind Alt, Late, more columns", "ab" + alt + "\x1b[5;4Hx" + noAlt, 5, 5, "ab|||| @2,0 / ||||   x @3,4", ""},
		{"with Alt, both Late", "abcd" + alt + "\r" + "efgh", 4, 1, "efgh @3,0L / abcd @3,0L", ""},
		{"with Alt, both Late, fewer columns", "abcd" + alt + "\r" + "efgh", 2, 1, "ef @1,0 / ab @1,0", ""},
	} {
		y := term.New(4, 5)
		y.Write(x.bytes)
		y.Resize(x.w, x.h)
		if got := both(y); got != x.want || texts(y.Back) != x.back {
			t.Errorf("%s: %q: %s, want %s; there went out %q, want %q", x.name, x.bytes, got, x.want, texts(y.Back), x.back)
		}
		if y.Top != 0 || y.End != y.H {
			t.Errorf("%s: the lines from %d up to %d of %d go", x.name, y.Top, y.End, y.H)
		}
		sound(t, x.name, y)
	}
}

func TestResizeBringsSidesToWhatMayBe(t *testing.T) {
	for _, w := range far() {
		for _, h := range far() {
			for _, bytes := range []string{"", five, five + alt, "\x1b[60;60Hx\x1b7" + alt} {
				x, want := term.New(60, 60), newModel(60, 60)
				x.Write(bytes)
				want.write(bytes)
				x.Resize(w, h)
				want.resize(min(max(w, 1), 60), min(max(h, 1), 60))
				if x.W != min(max(w, 1), 60) || x.H != min(max(h, 1), 60) {
					t.Fatalf("Resize(%d, %d): %d by %d", w, h, x.W, x.H)
				}
				expectSame(t, fmt.Sprintf("Resize(%d, %d) behind %q", w, h, bytes), x, want.term())
				sound(t, bytes, x)
			}
		}
	}
}

func TestResizeMakesAllLinesGo(t *testing.T) {
	for _, h := range []int{1, 2, 3, 5, 9} {
		x := term.New(4, 5)
		x.Write(ofFive + "\x1b[?6h\x1b[2;2H")
		x.Resize(4, h)
		if x.Top != 0 || x.End != h || !x.Origin {
			t.Errorf("%d lines: those from %d up to %d go", h, x.Top, x.End)
		}
	}
	x := term.New(4, 5)
	x.Write(ofFive)
	x.Resize(4, 5)
	x.Write("\x1b[5;1H\n")
	if texts(x.Lines) != "b|c|d|e|" || texts(x.Back) != "a" {
		t.Errorf("%s; there went out %s", texts(x.Lines), texts(x.Back))
	}
}

func TestResizeAndTheSavedCursor(t *testing.T) {
	for _, x := range []struct {
		bytes string
		w, h  int
		want  string
	}{
		{"\x1b[4;3H\x1b7\x1b[H", 4, 5, "2,3"}, {"\x1b[4;3H\x1b7\x1b[H", 2, 2, "1,1"}, {"\x1b[4;3H\x1b7\x1b[5;1H", 4, 3, "2,2"}, {"\x1b[2;3H\x1b7\x1b[5;1H", 4, 3, "2,1"},
		{"abcd\x1b7", 4, 2, "3,0L"}, {"abcd\x1b7", 5, 2, "3,0"}, {"abcd\x1b7", 3, 2, "2,0"}, {"\x1b[4G\x1b7", 4, 5, "3,0"}, {"abc\x1b7", 3, 5, "2,0"},
		{"\x1b[5;4Hx\x1b7\x1b[H", 4, 3, "3,2L"},
	} {
		y := term.New(4, 5)
		y.Write(x.bytes)
		y.Resize(x.w, x.h)
		if place(y.Saved) != x.want {
			t.Errorf("%q, to %d by %d: the saved cursor is at %s, want %s", x.bytes, x.w, x.h, place(y.Saved), x.want)
		}
		sound(t, x.bytes, y)
	}
}

// All that Resize isn't said to change stays.
func TestResizeLeavesTheRest(t *testing.T) {
	x, y := term.New(5, 4), term.New(5, 4)
	x.Write(amidAll + "\xe4\xb8")
	y.Write(amidAll + "\xe4\xb8")
	x.Resize(5, 4)
	y.Top, y.End = 0, 4
	expectSame(t, "of the same sides", x, y)
	x.Resize(60, 60)
	x.Resize(7, 9)
	want := *y
	want.Grid, want.Other, want.End = x.Grid, x.Other, 9
	expectSame(t, "of more columns and lines", x, &want)
}

func TestResizeAndStyles(t *testing.T) {
	x := term.New(4, 2)
	x.Write("\x1b[31;42ma中b\r\n\x1b[Kc")
	x.Resize(2, 3)
	style := api.Style{Fore: 2, Back: 3}
	want := [][]api.Cell{
		{{Rune: 'a', Style: style}, {Rune: ' ', Style: style}},
		{{Rune: 'c', Style: style}, {Rune: ' ', Style: api.Style{Back: 3}}},
		{{Rune: ' '}, {Rune: ' '}},
	}
	if !sameLines(x.Lines, want) || x.Cursor != (api.Cursor{X: 1, Y: 1, Style: style}) {
		t.Errorf("%v, %+v", x.Lines, x.Cursor)
	}
}

func TestResizeKeepsTheLastOnes(t *testing.T) {
	for _, h := range []int{1, 2, 39, 40, 41, 42, 59, 60} {
		for _, ahead := range []int{0, 1, 19, 20} {
			x := term.New(3, 60)
			var out []string
			for i := range ahead {
				x.Write(fmt.Sprintf("\x1b[Hz%d\x1b[S", i))
				out = append(out, fmt.Sprintf("z%d", i))
			}
			var lines []string
			for i := range 60 {
				lines = append(lines, fmt.Sprint(i))
				x.Write(fmt.Sprintf("\x1b[%d;1H%d", i+1, i))
			}
			x.Resize(3, h)
			out = slices.Concat(out, lines[:60-h])
			out = out[max(0, len(out)-20):]
			var got []string
			for y := range x.Back {
				got = append(got, texts(x.Back[y:y+1]))
			}
			if !slices.Equal(got, out) || x.Cursor.Y != h-1 || x.Text(h-1) != "59" {
				t.Errorf("to %d lines, where %d went out before: %v, want %v", h, ahead, got, out)
			}
		}
	}
}
