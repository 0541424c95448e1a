package term_test

import (
	"strings"
	"testing"

	"flipbook/api"
	"flipbook/grid"
	"flipbook/term"
)

func TestEscLines(t *testing.T) {
	expectRows(t, 3, 4,
		row{"D in the first line", four + "\x1b[1;2H\x1bD", "ab|cd|ef|gh @1,1"},
		row{"D in the last line", four + "\x1b[4;3H\x1bD", "cd|ef|gh| @2,3"},
		row{"D, Late", "abc\x1bD", "abc||| @2,1"},
		row{"D, Late in the last line", four + "x\x1bD", "cd|ef|ghx| @2,3"},
		row{"D ahead of the lines that go", amid + "\x1b[1;2H\x1bD", "ab|cd|ef|gh @1,1"},
		row{"D in the last line that goes", amid + "\x1b[3;2H\x1bD", "ab|ef||gh @1,2"},
		row{"D behind the lines that go", amid + "\x1b[4;2H\x1bD", "ab|cd|ef|gh @1,3"},
		row{"E in the first line", four + "\x1b[1;2H\x1bE", "ab|cd|ef|gh @0,1"},
		row{"E in the last line", four + "\x1b[4;3H\x1bE", "cd|ef|gh| @0,3"},
		row{"E, Late", "abc\x1bE", "abc||| @0,1"},
		row{"E in the last line that goes", amid + "\x1b[3;2H\x1bE", "ab|ef||gh @0,2"},
		row{"E behind the lines that go", amid + "\x1b[4;2H\x1bE", "ab|cd|ef|gh @0,3"},
		row{"M in the last line", four + "\x1bM", "ab|cd|ef|gh @2,2"},
		row{"M in the first line", four + "\x1b[1;2H\x1bM", "|ab|cd|ef @1,0"},
		row{"M, Late", four + "x\x1bM", "ab|cd|ef|ghx @2,2"},
		row{"M, Late in the first line", "abc\x1bM", "|abc|| @2,0"},
		row{"M in the first line that goes", amid + "\x1b[2;2H\x1bM", "ab||cd|gh @1,1"},
		row{"M in the second line that goes", amid + "\x1b[3;2H\x1bM", "ab|cd|ef|gh @1,1"},
		row{"M behind the lines that go", amid + "\x1b[4;2H\x1bM", "ab|cd|ef|gh @1,2"},
		row{"M ahead of the lines that go, in the first line", amid + "\x1b[1;2H\x1bM", "ab|cd|ef|gh @1,0"},
		row{"M ahead of the lines that go", four + "\x1b[3;4r\x1b[2;2H\x1bM", "ab|cd|ef|gh @1,0"},
	)
}

func TestEscSaves(t *testing.T) {
	expectRows(t, 3, 2,
		row{"8 alone", "ab\x1b8", "ab| @0,0"},
		row{"7 and 8", "ab\x1b7\r\nc\x1b8d", "abd|c @2,0L"},
		row{"7 and 8, Late", "abc\x1b7\x1b[H\x1b8", "abc| @2,0L"},
		row{"7 and 8, Late, and one more rune", "abc\x1b7\x1b[H\x1b8d", "abc|d @1,1"},
		row{"8 twice", "\x1b[2;2H\x1b7\x1b[H\x1b8\x1b[H\x1b8", "| @1,1"},
		row{"7 twice", "\x1b[2;2H\x1b7\x1b[H\x1b7\x1b[2;1H\x1b8", "| @0,0"},
		row{"with Origin, out of the lines that go", "\x1b[1;2H\x1b7\x1b[?6h\x1b8", "| @1,0"},
	)
	x := term.New(4, 3)
	x.Write("\x1b[1;32m\x1b[2;3H\x1b7\x1b[0;7;45m\x1b[H")
	green, turned := api.Style{Bold: true, Fore: 3}, api.Style{Turned: true, Back: 6}
	if x.Saved != (api.Cursor{X: 2, Y: 1, Style: green}) || x.Cursor != (api.Cursor{Style: turned}) {
		t.Fatal(x.Saved, x.Cursor)
	}
	x.Write("\x1b8")
	if x.Cursor != x.Saved || x.Cursor != (api.Cursor{X: 2, Y: 1, Style: green}) {
		t.Fatal(x.Saved, x.Cursor)
	}
	x.Write("\x1b[m\x1b[3;4Hab")
	if x.Saved != (api.Cursor{X: 2, Y: 1, Style: green}) {
		t.Error(x.Saved)
	}
}

// all but the saved cursor stays where 7 and 8 tell of it.
func TestEscSavesTheCursorAlone(t *testing.T) {
	x := term.New(4, 4)
	x.Write("\x1b7\x1b[2;3r\x1b[?6;25h\x1b[?7;25l\x1b[4h\x1b(0\x0e\x1b[2;2H\x1b8")
	if !x.Origin || x.Wrap || !x.Insert || !x.Hidden || !x.Draw[0] || !x.Shift || x.Top != 1 || x.End != 3 {
		t.Error(all(x))
	}
	if x.Cursor != (api.Cursor{}) {
		t.Error(x.Cursor)
	}
}

// amidAll: bytes behind which nothing is as at first.
const amidAll = four + "\nij\x1b[41m\x1b7\x1b[2;3r\x1b[3;2H\x1bH\x1b[1g\x1b[?6;1049h\x1b[?7;25l\x1b[4h\x1b(0\x1b)0\x0e\x1b]0;name\x07\x1b[6n\x1b[2;3Hk"

func TestEscReset(t *testing.T) {
	x := term.New(5, 4)
	x.Write(amidAll)
	if len(x.Back) == 0 || !x.Alt || !x.Origin || x.Wrap || !x.Insert || !x.Hidden || x.Draw != [2]bool{true, true} || !x.Shift || x.Title == "" || x.Top != 1 {
		t.Fatal(all(x))
	}
	reply := x.Reply
	if reply == "" {
		t.Fatal(all(x))
	}
	x.Write("\x1bc")
	if x.Take() != reply || x.W != 5 || x.H != 4 {
		t.Errorf("%s, where it answered %q", all(x), reply)
	}
	expectFirst(t, x)
	x.Write("a\x1b[?1049hb\x1bcd")
	if shown(x) != "d||| @1,0" || !grid.Same(x.Other, grid.New(5, 4)) {
		t.Error(all(x))
	}
	x = term.New(5, 4)
	x.Resize(3, 2)
	x.Write("\x1b[3g\x1bcabcdef\x1bc")
	if x.W != 3 || x.H != 2 {
		t.Errorf("behind Resize it is %d by %d", x.W, x.H)
	}
	expectFirst(t, x)
}

// Marks and final bytes that aren't told change nothing.
func TestEscOfOthers(t *testing.T) {
	const begin = "ab\x1b7\r\ncd\x1b[2;3r\x1b[3;2Hx"
	known := map[string]bool{"7": true, "8": true, "D": true, "E": true, "M": true, "H": true, "c": true, "(0": true, "(B": true, ")0": true, ")B": true}
	for _, marks := range []string{"", "(", ")", "*", "#", " ", "((", "()", ")(", "(#", "/$", "))"} {
		for last := byte(48); last < 127; last++ {
			s := marks + string(rune(last))
			if known[s] || marks == "" && strings.Contains("[]P", string(rune(last))) {
				continue
			}
			x, y := term.New(4, 4), term.New(4, 4)
			x.Write(begin)
			y.Write(begin + "\x1b" + s)
			expectSame(t, "ESC "+s, y, x)
		}
	}
}
