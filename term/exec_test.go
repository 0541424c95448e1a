package term_test

import (
	"slices"
	"strconv"
	"strings"
	"testing"

	"flipbook/api"
	"flipbook/term"
)

// Four lines, of which the second and the third one go.
const amid = "ab\r\ncd\r\nef\r\ngh\x1b[2;3r"

// Four lines that all go.
const four = "ab\r\ncd\r\nef\r\ngh"

func TestExecAtBothEnds(t *testing.T) {
	expectRows(t, 3, 4,
		row{"8 in the first column", four + "\x1b[2;1H\b", "ab|cd|ef|gh @0,1"},
		row{"8 in the second one", four + "\x1b[2;2H\b", "ab|cd|ef|gh @0,1"},
		row{"8 in the last one", four + "\x1b[2;3H\b", "ab|cd|ef|gh @1,1"},
		row{"8, Late", four + "x\b", "ab|cd|ef|ghx @1,3"},
		row{"13 in the first column", four + "\x1b[2;1H\r", "ab|cd|ef|gh @0,1"},
		row{"13 in the last one", four + "\x1b[2;3H\r", "ab|cd|ef|gh @0,1"},
		row{"13, Late", four + "x\r", "ab|cd|ef|ghx @0,3"},
		row{"9 in the first column", four + "\x1b[2;1H\t", "ab|cd|ef|gh @2,1"},
		row{"9 in the last one", four + "\x1b[2;3H\t", "ab|cd|ef|gh @2,1"},
		row{"9, Late", four + "x\t", "ab|cd|ef|ghx @2,3"},
		row{"14 and 15, Late", four + "x\x0e\x0f", "ab|cd|ef|ghx @2,3L"},
	)
	for _, feed := range []string{"\n", "\v", "\f"} {
		name := strconv.Quote(feed)
		expectRows(t, 3, 4,
			row{name + " in the first line", four + "\x1b[1;2H" + feed, "ab|cd|ef|gh @1,1"},
			row{name + " in the first line, behind the last column", "abc" + feed, "abc||| @2,1"},
			row{name + " in the last line", four + "\x1b[4;2H" + feed, "cd|ef|gh| @1,3"},
			row{name + " in the last line, behind the last column", four + "x" + feed, "cd|ef|ghx| @2,3"},
			row{name + " ahead of the lines that go", amid + "\x1b[1;1H" + feed, "ab|cd|ef|gh @0,1"},
			row{name + " in the first line that goes", amid + "\x1b[2;3H" + feed, "ab|cd|ef|gh @2,2"},
			row{name + " in the last line that goes", amid + "\x1b[3;3H" + feed, "ab|ef||gh @2,2"},
			row{name + " in the last line that goes, twice", amid + "\x1b[3;1H" + feed + feed, "ab|||gh @0,2"},
			row{name + " behind the lines that go", amid + "\x1b[4;2H" + feed, "ab|cd|ef|gh @1,3"},
			row{name + " behind them, in a line that isn't the last one", four + "\x1b[1;2r\x1b[3;2H" + feed, "ab|cd|ef|gh @1,3"},
			row{name + " behind them, behind the last column", amid + "\x1b[4;3Hz" + feed, "ab|cd|ef|ghz @2,3"},
		)
	}
}

// Other bytes that steer change nothing.
func TestExecOfOthers(t *testing.T) {
	for _, b := range slices.Concat(span(0, 7), span(16, 23), []byte{25, 28, 29, 30, 31, 127}) {
		x, y := term.New(3, 4), term.New(3, 4)
		x.Write(amid + "\x1b[3;3Hx")
		y.Write(amid + "\x1b[3;3Hx")
		x.Write(string([]byte{b}))
		expectSame(t, "byte "+strconv.Itoa(int(b)), x, y)
	}
}

// span: the bytes from one up to, and with, another one.
func span(first, last byte) (l []byte) {
	for b := first; b <= last; b++ {
		l = append(l, b)
	}
	return l
}

func TestLinesOnHaveTheCursorsStyle(t *testing.T) {
	back := api.Cell{Rune: ' ', Style: api.Style{Back: 3}}
	for bytes, y := range map[string]int{"\n": 2, "\v": 2, "\f": 2, "\x1bD": 2, "\x1bE": 2, "\x1bM": 1} {
		x := term.New(3, 4)
		x.Write(amid + "\x1b[1;31;42m\x1b[" + strconv.Itoa(y+1) + ";1H" + bytes)
		for at := range 3 {
			if x.At(at, y) != back {
				t.Errorf("%q: %v came in", bytes, x.Lines[y])
			}
		}
	}
}

func TestTabs(t *testing.T) {
	expectRows(t, 20, 1,
		row{"the first column", "\t", " @8,0"},
		row{"ahead of a stop", "\x1b[8G\t", " @8,0"},
		row{"at a stop", "\x1b[9G\t", " @16,0"},
		row{"behind the last stop of the screen", "\x1b[17G\t", " @19,0"},
		row{"three", "\t\t\t", " @19,0"},
		row{"the last column", "\x1b[20G\t", " @19,0"},
		row{"behind the last column", strings.Repeat("x", 20) + "\t", strings.Repeat("x", 20) + " @19,0"},
		row{"one more stop", "\x1b[4G\x1bH\r\t", " @3,0"},
		row{"one more, and on", "\x1b[4G\x1bH\r\t\t", " @8,0"},
		row{"a stop in the first column", "\x1bH\x1b[5G\t\x1b[G", " @0,0"},
		row{"a stop in the last column", "\x1b[20G\x1bH\x1b[19G\t", " @19,0"},
		row{"one taken away", "\x1b[9G\x1b[g\r\t", " @16,0"},
		row{"one taken away by 0", "\x1b[9G\x1b[0g\r\t", " @16,0"},
		row{"none taken away where there is none", "\x1b[8G\x1b[g\r\t", " @8,0"},
		row{"all taken away", "\x1b[3g\t", " @19,0"},
		row{"all taken away but one set behind that", "\x1b[3g\x1b[6G\x1bH\r\t", " @5,0"},
		row{"1, 2 and 4 take none away", "\x1b[9G\x1b[1g\x1b[2g\x1b[4g\x1b[5g\r\t", " @8,0"},
		row{"the first parameter alone", "\x1b[9G\x1b[1;0g\x1b[1;3g\r\t", " @8,0"},
		row{"a stop where the cursor is Late", strings.Repeat("x", 20) + "\x1bH\x1b[G\t\t\t", strings.Repeat("x", 20) + " @19,0"},
	)
	expectRows(t, 9, 1, row{"a stop that is the last column", "\t", " @8,0"})
	expectRows(t, 8, 1, row{"a stop behind the last column", "\t", " @7,0"})
	expectRows(t, 1, 1, row{"one column", "\t", " @0,0"})
	expectRows(t, 60, 1,
		row{"the last stop", "\x1b[56G\t", " @56,0"},
		row{"all stops", strings.Repeat("\t", 7), " @56,0"},
		row{"behind all stops", strings.Repeat("\t", 8), " @59,0"},
	)
}

func TestTabsAreOfColumns(t *testing.T) {
	x := term.New(60, 2)
	x.Write("\x1b[60G\x1bH\x1b[G\x1bH\x1b[9G\x1b[g")
	want := term.New(60, 2).Tabs
	want[59], want[0], want[8] = true, true, false
	if x.Tabs != want {
		t.Error(x.Tabs)
	}
	x.Resize(5, 1)
	if x.Tabs != want {
		t.Errorf("behind Resize: %v", x.Tabs)
	}
	x.Write("\x1b[5G\x1bHab\x1bH")
	want[4], want[1] = true, true
	if x.Tabs != want || shown(x) != "b @1,0" {
		t.Errorf("%v, %s", x.Tabs, shown(x))
	}
	x.Write("\x1b[3g")
	if x.Tabs != [api.MaxSide]bool{} {
		t.Error(x.Tabs)
	}
}
