package term_test

import (
	"strconv"
	"strings"
	"testing"

	"flipbook/api"
	"flipbook/cell"
	"flipbook/term"
)

// Six lines, of which the third and the fourth one go.
const thirdAndFourth = "\x1b[3;4r"

func TestUpAndDownByLines(t *testing.T) {
	expectRows(t, 3, 6,
		row{"A in the last line", "\x1b[6;2H\x1b[A", "||||| @1,4"},
		row{"A of 0", "\x1b[6;2H\x1b[0A", "||||| @1,4"},
		row{"A of 3", "\x1b[6;2H\x1b[3A", "||||| @1,2"},
		row{"A of all", "\x1b[6;2H\x1b[5A", "||||| @1,0"},
		row{"A of one more", "\x1b[6;2H\x1b[6A", "||||| @1,0"},
		row{"A of the most", "\x1b[6;2H\x1b[99999A", "||||| @1,0"},
		row{"A in the first line", "\x1b[1;3H\x1b[A", "||||| @2,0"},
		row{"A, Late", "\x1b[6;3Hx\x1b[A", "|||||  x @2,4"},
		row{"A, Late in the first line", "abc\x1b[A", "abc||||| @2,0"},
		row{"A behind the lines that go", thirdAndFourth + "\x1b[6;2H\x1b[2A", "||||| @1,3"},
		row{"A from behind the lines that go, to the first one of them", thirdAndFourth + "\x1b[6;2H\x1b[3A", "||||| @1,2"},
		row{"A from behind the lines that go, further", thirdAndFourth + "\x1b[6;2H\x1b[4A", "||||| @1,2"},
		row{"A among the lines that go", thirdAndFourth + "\x1b[4;2H\x1b[A", "||||| @1,2"},
		row{"A among the lines that go, further", thirdAndFourth + "\x1b[4;2H\x1b[9A", "||||| @1,2"},
		row{"A in the first line that goes", thirdAndFourth + "\x1b[3;2H\x1b[A", "||||| @1,2"},
		row{"A ahead of the lines that go", thirdAndFourth + "\x1b[2;2H\x1b[A", "||||| @1,0"},
		row{"A ahead of the lines that go, further", thirdAndFourth + "\x1b[2;2H\x1b[9999A", "||||| @1,0"},
	)
	for _, last := range []string{"B", "e"} {
		expectRows(t, 3, 6,
			row{last + " in the first line", "\x1b[1;2H\x1b[" + last, "||||| @1,1"},
			row{last + " of 0", "\x1b[1;2H\x1b[0" + last, "||||| @1,1"},
			row{last + " of 3", "\x1b[1;2H\x1b[3" + last, "||||| @1,3"},
			row{last + " of all", "\x1b[1;2H\x1b[5" + last, "||||| @1,5"},
			row{last + " of one more", "\x1b[1;2H\x1b[6" + last, "||||| @1,5"},
			row{last + " of the most", "\x1b[1;2H\x1b[99999" + last, "||||| @1,5"},
			row{last + " in the last line", "\x1b[6;3H\x1b[" + last, "||||| @2,5"},
			row{last + ", Late", "abc\x1b[" + last, "abc||||| @2,1"},
			row{last + " ahead of the lines that go", thirdAndFourth + "\x1b[1;2H\x1b[2" + last, "||||| @1,2"},
			row{last + " from ahead of them, to the last one of them", thirdAndFourth + "\x1b[1;2H\x1b[3" + last, "||||| @1,3"},
			row{last + " from ahead of them, further", thirdAndFourth + "\x1b[1;2H\x1b[4" + last, "||||| @1,3"},
			row{last + " among the lines that go", thirdAndFourth + "\x1b[3;2H\x1b[" + last, "||||| @1,3"},
			row{last + " among the lines that go, further", thirdAndFourth + "\x1b[3;2H\x1b[9" + last, "||||| @1,3"},
			row{last + " in the last line that goes", thirdAndFourth + "\x1b[4;2H\x1b[" + last, "||||| @1,3"},
			row{last + " behind the lines that go", thirdAndFourth + "\x1b[5;2H\x1b[" + last, "||||| @1,5"},
			row{last + " behind the lines that go, further", thirdAndFourth + "\x1b[5;2H\x1b[9999" + last, "||||| @1,5"},
		)
	}
}

func TestColumns(t *testing.T) {
	for _, last := range []string{"C", "a"} {
		expectRows(t, 5, 2,
			row{last, "\x1b[2;2H\x1b[" + last, "| @2,1"},
			row{last + " of 0", "\x1b[2;2H\x1b[0" + last, "| @2,1"},
			row{last + " of 2", "\x1b[2;2H\x1b[2" + last, "| @3,1"},
			row{last + " to the last column", "\x1b[2;2H\x1b[3" + last, "| @4,1"},
			row{last + " beyond the last column", "\x1b[2;2H\x1b[4" + last, "| @4,1"},
			row{last + " of the most", "\x1b[2;2H\x1b[9999" + last, "| @4,1"},
			row{last + ", Late", "abcde\x1b[" + last, "abcde| @4,0"},
		)
	}
	for _, last := range []string{"G", "`"} {
		expectRows(t, 5, 2,
			row{last, "\x1b[2;3H\x1b[" + last, "| @0,1"},
			row{last + " of 0", "\x1b[2;3H\x1b[0" + last, "| @0,1"},
			row{last + " of 1", "\x1b[2;3H\x1b[1" + last, "| @0,1"},
			row{last + " of 4", "\x1b[2;3H\x1b[4" + last, "| @3,1"},
			row{last + " of all", "\x1b[2;3H\x1b[5" + last, "| @4,1"},
			row{last + " of one more", "\x1b[2;3H\x1b[6" + last, "| @4,1"},
			row{last + " of the most", "\x1b[2;3H\x1b[9999" + last, "| @4,1"},
			row{last + ", Late", "abcde\x1b[5" + last, "abcde| @4,0"},
		)
	}
	expectRows(t, 5, 2,
		row{"D", "\x1b[2;4H\x1b[D", "| @2,1"},
		row{"D of 0", "\x1b[2;4H\x1b[0D", "| @2,1"},
		row{"D of 2", "\x1b[2;4H\x1b[2D", "| @1,1"},
		row{"D to the first column", "\x1b[2;4H\x1b[3D", "| @0,1"},
		row{"D beyond the first column", "\x1b[2;4H\x1b[4D", "| @0,1"},
		row{"D of the most", "\x1b[2;4H\x1b[9999D", "| @0,1"},
		row{"D, Late", "abcde\x1b[D", "abcde| @3,0"},
	)
}

func TestHome(t *testing.T) {
	for _, last := range []string{"H", "f"} {
		expectRows(t, 5, 6,
			row{last, "abc\x1b[" + last, "abc||||| @0,0"},
			row{last + " of 0 and 0", "abc\x1b[0;0" + last, "abc||||| @0,0"},
			row{last + " of a line", "abc\x1b[3" + last, "abc||||| @0,2"},
			row{last + " of a column", "abc\x1b[;4" + last, "abc||||| @3,0"},
			row{last + " of both", "abc\x1b[6;5" + last, "abc||||| @4,5"},
			row{last + " of both, too great", "abc\x1b[7;6" + last, "abc||||| @4,5"},
			row{last + " of the most", "abc\x1b[9999;9999" + last, "abc||||| @4,5"},
			row{last + ", Late", "abcde\x1b[1;5" + last, "abcde||||| @4,0"},
			row{last + " without Origin, ahead of the lines that go", "\x1b[3;4r\x1b[1;2" + last, "||||| @1,0"},
			row{last + " without Origin, behind them", "\x1b[3;4r\x1b[6;2" + last, "||||| @1,5"},
			row{last + " with Origin", "\x1b[3;5r\x1b[?6h\x1b[" + last, "||||| @0,2"},
			row{last + " with Origin, of both", "\x1b[3;5r\x1b[?6h\x1b[2;4" + last, "||||| @3,3"},
			row{last + " with Origin, of the last line that goes", "\x1b[3;5r\x1b[?6h\x1b[3;4" + last, "||||| @3,4"},
			row{last + " with Origin, further", "\x1b[3;5r\x1b[?6h\x1b[4;9" + last, "||||| @4,4"},
			row{last + " with Origin, of the most", "\x1b[3;5r\x1b[?6h\x1b[9999;9999" + last, "||||| @4,4"},
			row{last + " with Origin, where all lines go", "\x1b[?6h\x1b[5;9999" + last, "||||| @4,4"},
		)
	}
	expectRows(t, 5, 6,
		row{"d", "\x1b[3;3H\x1b[d", "||||| @2,0"},
		row{"d of 0", "\x1b[3;3H\x1b[0d", "||||| @2,0"},
		row{"d of 1", "\x1b[3;3H\x1b[1d", "||||| @2,0"},
		row{"d of 4", "\x1b[3;3H\x1b[4d", "||||| @2,3"},
		row{"d of two parameters", "\x1b[3;3H\x1b[4;5d", "||||| @2,3"},
		row{"d of all", "\x1b[3;3H\x1b[6d", "||||| @2,5"},
		row{"d of one more", "\x1b[3;3H\x1b[7d", "||||| @2,5"},
		row{"d of the most", "\x1b[3;3H\x1b[9999d", "||||| @2,5"},
		row{"d, Late", "abcde\x1b[d", "abcde||||| @4,0"},
		row{"d without Origin", "\x1b[3;4r\x1b[2;3H\x1b[6d", "||||| @2,5"},
		row{"d with Origin", "\x1b[3;5r\x1b[?6h\x1b[3;3H\x1b[d", "||||| @2,2"},
		row{"d with Origin, of 2", "\x1b[3;5r\x1b[?6h\x1b[3;3H\x1b[2d", "||||| @2,3"},
		row{"d with Origin, further", "\x1b[3;5r\x1b[?6h\x1b[1;3H\x1b[4d", "||||| @2,4"},
		row{"d with Origin, from ahead of the lines that go", "\x1b[1;3H\x1b7\x1b[3;5r\x1b[?6h\x1b8\x1b[2d", "||||| @2,3"},
	)
}

// Lines of five columns, the cursor in the second one of the first line.
const letters = "abcde\r\nfghij\r\nklmno\x1b[1;2H"

func TestCellsOfTheLine(t *testing.T) {
	expectRows(t, 5, 3,
		row{"@", letters + "\x1b[@", "a bcd|fghij|klmno @1,0"},
		row{"@ of 0", letters + "\x1b[0@", "a bcd|fghij|klmno @1,0"},
		row{"@ of 2", letters + "\x1b[2@", "a  bc|fghij|klmno @1,0"},
		row{"@ of all but one", letters + "\x1b[3@", "a   b|fghij|klmno @1,0"},
		row{"@ of all", letters + "\x1b[4@", "a|fghij|klmno @1,0"},
		row{"@ of one more", letters + "\x1b[5@", "a|fghij|klmno @1,0"},
		row{"@ of the most", letters + "\x1b[99999@", "a|fghij|klmno @1,0"},
		row{"@, Late", "abcde\x1b[@", "abcd|| @4,0L"},
		row{"@ amid a wide one", "a中bc\x1b[1;3H\x1b[@", "a   b|| @2,0"},
		row{"P", letters + "\x1b[P", "acde|fghij|klmno @1,0"},
		row{"P of 0", letters + "\x1b[0P", "acde|fghij|klmno @1,0"},
		row{"P of 2", letters + "\x1b[2P", "ade|fghij|klmno @1,0"},
		row{"P of all but one", letters + "\x1b[3P", "ae|fghij|klmno @1,0"},
		row{"P of all", letters + "\x1b[4P", "a|fghij|klmno @1,0"},
		row{"P of one more", letters + "\x1b[5P", "a|fghij|klmno @1,0"},
		row{"P of the most", letters + "\x1b[99999P", "a|fghij|klmno @1,0"},
		row{"P, Late", "abcde\x1b[P", "abcd|| @4,0L"},
		row{"P of a wide one's first half", "a中bc\x1b[1;2H\x1b[P", "a bc|| @1,0"},
		row{"X", letters + "\x1b[X", "a cde|fghij|klmno @1,0"},
		row{"X of 0", letters + "\x1b[0X", "a cde|fghij|klmno @1,0"},
		row{"X of 2", letters + "\x1b[2X", "a  de|fghij|klmno @1,0"},
		row{"X of all but one", letters + "\x1b[3X", "a   e|fghij|klmno @1,0"},
		row{"X of all", letters + "\x1b[4X", "a|fghij|klmno @1,0"},
		row{"X of one more", letters + "\x1b[5X", "a|fghij|klmno @1,0"},
		row{"X of the most", letters + "\x1b[99999X", "a|fghij|klmno @1,0"},
		row{"X, Late", "abcde\x1b[X", "abcd|| @4,0L"},
		row{"X amid a wide one", "a中bc\x1b[1;3H\x1b[X", "a  bc|| @2,0"},
	)
}

func TestClearing(t *testing.T) {
	const second = letters + "\x1b[2;3H"
	expectRows(t, 5, 3,
		row{"K", second + "\x1b[K", "abcde|fg|klmno @2,1"},
		row{"K of 0", second + "\x1b[0K", "abcde|fg|klmno @2,1"},
		row{"K of 1", second + "\x1b[1K", "abcde|   ij|klmno @2,1"},
		row{"K of 2", second + "\x1b[2K", "abcde||klmno @2,1"},
		row{"K of 3", second + "\x1b[3K", "abcde|fghij|klmno @2,1"},
		row{"K of 4", second + "\x1b[4K", "abcde|fghij|klmno @2,1"},
		row{"K of the most", second + "\x1b[9999K", "abcde|fghij|klmno @2,1"},
		row{"K of two parameters", second + "\x1b[1;2K", "abcde|   ij|klmno @2,1"},
		row{"K in the first column", letters + "\x1b[2;1H\x1b[K", "abcde||klmno @0,1"},
		row{"K of 1 in the first column", letters + "\x1b[2;1H\x1b[1K", "abcde| ghij|klmno @0,1"},
		row{"K in the last column", letters + "\x1b[2;5H\x1b[K", "abcde|fghi|klmno @4,1"},
		row{"K of 1 in the last column", letters + "\x1b[2;5H\x1b[1K", "abcde||klmno @4,1"},
		row{"K, Late", "abcde\x1b[K", "abcd|| @4,0L"},
		row{"K of 1, Late", "abcde\x1b[1K", "|| @4,0L"},
		row{"K amid a wide one", "a中bc\x1b[1;3H\x1b[K", "a|| @2,0"},
		row{"K of 1 amid a wide one", "a中bc\x1b[1;2H\x1b[1K", "   bc|| @1,0"},
		row{"J", second + "\x1b[J", "abcde|fg| @2,1"},
		row{"J of 0", second + "\x1b[0J", "abcde|fg| @2,1"},
		row{"J of 1", second + "\x1b[1J", "|   ij|klmno @2,1"},
		row{"J of 2", second + "\x1b[2J", "|| @2,1"},
		row{"J of 3", second + "\x1b[3J", "abcde|fghij|klmno @2,1"},
		row{"J of 4", second + "\x1b[4J", "abcde|fghij|klmno @2,1"},
		row{"J of the most", second + "\x1b[9999J", "abcde|fghij|klmno @2,1"},
		row{"J in the first place", letters + "\x1b[H\x1b[J", "|| @0,0"},
		row{"J of 1 in the first place", letters + "\x1b[H\x1b[1J", " bcde|fghij|klmno @0,0"},
		row{"J in the last place", letters + "\x1b[3;5H\x1b[J", "abcde|fghij|klmn @4,2"},
		row{"J of 1 in the last place", letters + "\x1b[3;5H\x1b[1J", "|| @4,2"},
		row{"J, Late", "abcde\x1b[J", "abcd|| @4,0L"},
		row{"J of 1, with lines that go", letters + "\x1b[2;3r\x1b[2;3H\x1b[1J", "|   ij|klmno @2,1"},
		row{"J, with lines that go", letters + "\x1b[1;2r\x1b[2;3H\x1b[J", "abcde|fg| @2,1"},
	)
}

// What comes in blank has the cursor's back, and no more of its style.
func TestBlanksHaveTheCursorsStyle(t *testing.T) {
	back := api.Cell{Rune: ' ', Style: api.Style{Back: 5}}
	for bytes, places := range map[string][][2]int{
		"\x1b[2@": {{2, 1}, {3, 1}}, "\x1b[2P": {{3, 1}, {4, 1}}, "\x1b[2X": {{2, 1}, {3, 1}},
		"\x1b[K": {{2, 1}, {3, 1}, {4, 1}}, "\x1b[1K": {{0, 1}, {1, 1}, {2, 1}}, "\x1b[2K": {{0, 1}, {1, 1}, {2, 1}, {3, 1}, {4, 1}},
		"\x1b[J":  {{2, 1}, {3, 1}, {4, 1}, {0, 2}, {1, 2}, {2, 2}, {3, 2}, {4, 2}},
		"\x1b[1J": {{0, 1}, {1, 1}, {2, 1}, {0, 0}, {1, 0}, {2, 0}, {3, 0}, {4, 0}},
		"\x1b[2J": {{0, 0}, {4, 0}, {0, 1}, {1, 1}, {2, 1}, {3, 1}, {4, 1}, {0, 2}, {4, 2}, {1, 0}, {2, 0}, {3, 0}, {1, 2}, {2, 2}, {3, 2}},
		"\x1b[L":  {{0, 1}, {1, 1}, {2, 1}, {3, 1}, {4, 1}}, "\x1b[M": {{0, 2}, {1, 2}, {2, 2}, {3, 2}, {4, 2}},
		"\x1b[S": {{0, 2}, {1, 2}, {2, 2}, {3, 2}, {4, 2}}, "\x1b[T": {{0, 0}, {1, 0}, {2, 0}, {3, 0}, {4, 0}},
	} {
		x := term.New(5, 3)
		x.Write(letters + "\x1b[2;3H\x1b[1;4;7;31;44m" + bytes)
		here := map[[2]int]bool{}
		for _, p := range places {
			here[p] = true
		}
		for y := range 3 {
			for at := range 5 {
				c := x.At(at, y)
				if here[[2]int{at, y}] && c != back || !here[[2]int{at, y}] && c.Style != (api.Style{}) {
					t.Errorf("%q: %v at %d, %d", bytes, c, at, y)
				}
			}
		}
	}
}

func TestStyles(t *testing.T) {
	loud := api.Style{Bold: true, Under: true, Turned: true, Fore: 2, Back: 8}
	const asLoud = "\x1b[0;1;4;7;31;47m"
	for bytes, want := range map[string]api.Style{
		"":                                   loud,
		"\x1b[m":                             {},
		"\x1b[0m":                            {},
		"\x1b[;m":                            {},
		"\x1b[;1m":                           {Bold: true},
		"\x1b[22m":                           {Under: true, Turned: true, Fore: 2, Back: 8},
		"\x1b[24;27m":                        {Bold: true, Fore: 2, Back: 8},
		"\x1b[39;49m":                        {Bold: true, Under: true, Turned: true},
		"\x1b[37;40m":                        {Bold: true, Under: true, Turned: true, Fore: 8, Back: 1},
		"\x1b[38;48m":                        loud,
		"\x1b[2;3;5;6;8;9;21m":               loud,
		"\x1b[90;107;9999m":                  loud,
		"\x1b[1;4;7;31;47;0;1m":              {Bold: true},
		"\x1b[39;49;39;49;39;49;22;24;27;0m": {Under: true, Turned: true}, // those past the most are all one with the last one
		"\x1b[?0m":                           loud,
		"\x1b[>0m":                           loud,
		"\x1b[ m":                            loud,
		"\x1b[0:1m":                          loud,
	} {
		x := term.New(3, 1)
		x.Write("ab\x1b[2G" + asLoud + bytes)
		if x.Cursor != (api.Cursor{X: 1, Style: want}) || texts(x.Lines) != "ab" {
			t.Errorf("%q: %+v", bytes, x.Cursor)
		}
	}
	x := term.New(2, 1)
	x.Write("ab" + asLoud)
	if !x.Cursor.Late || x.Cursor.Style != loud {
		t.Errorf("Late: %+v", x.Cursor)
	}
	for p := range 120 {
		x := term.New(2, 1)
		x.Write(asLoud + csi("m", p))
		if x.Cursor.Style != cell.Change(loud, p) {
			t.Errorf("%d m: %+v", p, x.Cursor.Style)
		}
	}
}

// csi: a sequence of parameters.
func csi(last string, params ...int) string {
	var l []string
	for _, p := range params {
		l = append(l, strconv.Itoa(p))
	}
	return "\x1b[" + strings.Join(l, ";") + last
}
