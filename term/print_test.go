package term_test

import (
	"strings"
	"testing"

	"flipbook/api"
	"flipbook/term"
)

const noWrap = "\x1b[?7l"

// Bytes behind which a cursor in the last column is Late though it wraps no more.
const lateWithoutWrap = "\x1b7" + noWrap + "\x1b8"

func TestPrintNarrow(t *testing.T) {
	expectRows(t, 5, 3,
		row{"some", "abc", "abc|| @3,0"},
		row{"as many as there is room for", "abcde", "abcde|| @4,0L"},
		row{"one more", "abcdef", "abcde|f| @1,1"},
		row{"two lines and one", "abcdefghijk", "abcde|fghij|k @1,2"},
		row{"all cells", "abcdefghijklmno", "abcde|fghij|klmno @4,2L"},
		row{"one more than all cells", "abcdefghijklmnop", "fghij|klmno|p @1,2"},
		row{"the last column, not Late", "\x1b[1;5Hx", "    x|| @4,0L"},
		row{"the last column of the last line, not Late", "\x1b[3;5Hxy", "|    x|y @1,2"},
		row{"without Wrap", noWrap + "abcdef", "abcdf|| @4,0"},
		row{"the last column without Wrap", noWrap + "\x1b[1;5Hx", "    x|| @4,0"},
		row{"Late, Wrap off", "abcde" + noWrap + "x", "abcdx|| @4,0"},
		row{"Late without Wrap", "abcde" + lateWithoutWrap + "x", "abcdx|| @4,0"},
		row{"Late, Wrap off and on again", "abcde" + lateWithoutWrap + "\x1b[?7hx", "abcde|x| @1,1"},
		row{"Late, in a line ahead of the last one that goes", "\x1b[1;2r\x1b[1;5Hxy", "    x|y| @1,1"},
		row{"Late in the last line that goes", "abc\x1b[1;2r\x1b[2;5Hxy", "    x|y| @1,1"},
		row{"Late behind the lines that go", "abc\x1b[1;2r\x1b[3;5Hxy", "abc||y   x @1,2"},
		row{"over others", "abcde\x1b[1;2HXY", "aXYde|| @3,0"},
		row{"over the first half of a wide one", "中文\x1b[1;1Hx", "x 文<|| @1,0"},
		row{"over the second half of a wide one", "中文\x1b[1;2Hx", " x文<|| @2,0"},
		row{"the greatest rune, and one from 128 on", "\U0010FFFF\u0085é", "\U0010FFFF\u0085é|| @3,0"},
	)
	expectRows(t, 1, 2,
		row{"one column", "a", "a| @0,0L"},
		row{"one column, more runes", "abc", "b|c @0,1L"},
		row{"one column without Wrap", noWrap + "abc", "c| @0,0"},
	)
}

func TestPrintWide(t *testing.T) {
	expectRows(t, 5, 3,
		row{"one", "中", "中<|| @2,0"},
		row{"up to the last column", "abc中", "abc中<|| @4,0L"},
		row{"behind that", "abc中x", "abc中<|x| @1,1"},
		row{"a wide one behind that", "abc中文", "abc中<|文<| @2,1"},
		row{"the last column", "abcd中", "abcd|中<| @2,1"},
		row{"the last column of the last line", "ab\x1b[3;5H中", "||中< @2,2"},
		row{"the last column of the last line that goes", "ab\x1b[2;3r\x1b[3;5H中", "ab||中< @2,2"},
		row{"the last column behind the lines that go", "ab\x1b[1;2r\x1b[3;5H中", "ab||中< @2,2"},
		row{"Late", "abcde中", "abcde|中<| @2,1"},
		row{"the last column without Wrap", noWrap + "abcd中", "abc中<|| @4,0"},
		row{"the last column without Wrap, on a wide one's second half", noWrap + "abc文中", "abc中<|| @4,0"},
		row{"Late without Wrap", "abcde" + lateWithoutWrap + "中", "abc中<|| @4,0"},
		row{"the last column but one without Wrap", noWrap + "abc中", "abc中<|| @4,0"},
		row{"over halves of two", "中文\x1b[1;2H한", " 한<|| @3,0"},
	)
	expectRows(t, 2, 2,
		row{"two columns", "中", "中<| @1,0L"},
		row{"two columns, two of them", "中文", "中<|文< @1,1L"},
		row{"two columns, the last one", "a中", "a|中< @1,1L"},
		row{"two columns without Wrap", noWrap + "a中", "中<| @1,0"},
	)
	expectRows(t, 1, 3,
		row{"a screen of one column", "中", "\uFFFD|| @0,0L"},
		row{"a screen of one column, amid others", "a中b", "a|\uFFFD|b @0,2L"},
		row{"a screen of one column without Wrap", noWrap + "a中", "\uFFFD|| @0,0"},
		row{"a screen of one column, with Insert", "\x1b[4ha中", "a|\uFFFD| @0,1L"},
	)
}

func TestPrintOfNoRunes(t *testing.T) {
	const no = "\uFFFD"
	expectRows(t, 9, 2,
		row{"the mark for none", no, no + "| @1,0"},
		row{"half of a pair", "a\xED\xA0\x80b", "a" + no + no + no + "b| @5,0"},
		row{"past the greatest rune", "\xF4\x90\x80\x80", strings.Repeat(no, 4) + "| @4,0"},
		row{"a byte amid a rune", "\x80\xBFa", no + no + "a| @3,0"},
		row{"a rune that is cut off", "\xE4\xB8a", no + no + "a| @3,0"},
		row{"a rune that is cut off by one that steers", "\xE4\xB8\r", no + no + "| @0,0"},
		row{"a rune that is cut off by a sequence", "\xE4\xB8\x1b[C", no + no + "| @3,0"},
		row{"a longer way than there need be", "\xC0\xAF", no + no + "| @2,0"},
		row{"bytes that none has", "\xFE\xFF", no + no + "| @2,0"},
		row{"byte 127", "a\x7Fb", "ab| @2,0"},
		row{"a rune under way", "a\xE4\xB8", "a| @1,0"},
		row{"none of them drawn", "\x1b(0\xFFq", no + "─| @2,0"},
	)
}

func TestPrintWithInsert(t *testing.T) {
	const insert = "\x1b[4h"
	expectRows(t, 5, 2,
		row{"where there is room", "abc\x1b[1;2H" + insert + "X", "aXbc| @2,0"},
		row{"where there is none", "abcde\x1b[1;2H" + insert + "X", "aXbcd| @2,0"},
		row{"the last column", "abcde\x1b[1;5H" + insert + "X", "abcdX| @4,0L"},
		row{"the last column, Late", "abcde\r\nfg\x1b[H\x1b[4C" + insert + "XY", "abcdX|Yfg @1,1"},
		row{"the last column without Wrap", noWrap + "abcde" + insert + "XY", "abcdY| @4,0"},
		row{"a wide one", "abc\x1b[1;2H" + insert + "中", "a中<bc| @3,0"},
		row{"a wide one, where there is no room", "abcde\x1b[1;2H" + insert + "中", "a中<bc| @3,0"},
		row{"a wide one in the last column but one", "abcde\x1b[1;4H" + insert + "中", "abc中<| @4,0L"},
		row{"a wide one in the last column", "abcde\r\nfg\x1b[1;5H" + insert + "中", "abcde|中<fg @2,1"},
		row{"a wide one in the last column without Wrap", noWrap + "abcde" + insert + "中", "abc中<| @4,0"},
		row{"a wide one goes over the end", "abc中\x1b[1;1H" + insert + "X", "Xabc| @1,0"},
		row{"amid a wide one", "a中bc\x1b[1;3H" + insert + "X", "a X b| @3,0"},
		row{"off again", "abc\x1b[1;2H" + insert + "X\x1b[4lY", "aXYc| @3,0"},
	)
	x := term.New(5, 1)
	x.Write("abc\x1b[1;41m\x1b[H" + insert + "z")
	style := api.Style{Bold: true, Back: 2}
	if x.At(0, 0) != (api.Cell{Rune: 'z', Style: style}) || x.At(1, 0) != (api.Cell{Rune: 'a'}) || x.At(4, 0) != (api.Cell{Rune: ' '}) {
		t.Error(x.Lines)
	}
	// The rest goes out at the end, and what is left of the wide rune is a blank of its style; that which came in is the cursor's.
	x = term.New(4, 1)
	x.Write("\x1b[31ma中b\x1b[0;44m\x1b[1;3H" + insert + "z")
	if x.At(1, 0) != (api.Cell{Rune: ' ', Style: api.Style{Fore: 2}}) || x.At(2, 0) != (api.Cell{Rune: 'z', Style: api.Style{Back: 5}}) || x.At(3, 0) != (api.Cell{Rune: ' ', Style: api.Style{Fore: 2}}) {
		t.Error(x.Lines)
	}
}

func TestPrintHasTheCursorsStyle(t *testing.T) {
	x := term.New(4, 2)
	x.Write("\x1b[1;4;33;46ma中\x1b[mb")
	loud := api.Style{Bold: true, Under: true, Fore: 4, Back: 7}
	for i, want := range []api.Cell{{Rune: 'a', Style: loud}, {Rune: '中', Style: loud}, {Rune: 0, Style: loud}, {Rune: 'b'}} {
		if x.At(i, 0) != want {
			t.Errorf("column %d: %v, want %v", i, x.At(i, 0), want)
		}
	}
	// The line that comes in where the cursor wraps has the style's back, too.
	x.Write("cdef\x1b[7;45mg")
	if shown(x) != "cdef|g @1,1" || x.At(3, 1) != (api.Cell{Rune: ' ', Style: api.Style{Back: 6}}) {
		t.Error(x.Lines)
	}
}

// signs: what the runes from 96 on are where they are drawn.
const signs = "◆▒␉␌␍␊°±␤␋┘┐┌└┼⎺⎻─⎼⎽├┤┴┬│≤≥π≠£·"

func TestSets(t *testing.T) {
	drawn := []rune(signs)
	for first := range 2 {
		for second := range 2 {
			for shift := range 2 {
				bytes := [2]string{"\x1b(B", "\x1b(0"}[first] + [2]string{"\x1b)B", "\x1b)0"}[second] + [2]string{"\x0f", "\x0e"}[shift]
				for r := rune(32); r < 127; r++ {
					x := term.New(2, 1)
					x.Write(bytes + string(r))
					want := r
					if r >= 96 && [2]int{first, second}[shift] == 1 {
						want = drawn[r-96]
					}
					if x.At(0, 0).Rune != want || x.Draw != [2]bool{first == 1, second == 1} || x.Shift != (shift == 1) {
						t.Errorf("%q: %q, want %q; %v, %v", bytes+string(r), x.At(0, 0).Rune, want, x.Draw, x.Shift)
					}
				}
			}
		}
	}
	expectRows(t, 9, 1,
		row{"both, one behind the other", "\x1b(0q\x1b(Bq\x1b)0q\x0eq\x1b)Bq\x0fq\x1b(0q", "─qq─qq─ @7,0"},
		row{"a wide one amid drawn ones", "\x1b(0q中~", "─中<· @4,0"},
		row{"other sets stay as they are", "\x1b(0\x1b(A\x1b(1\x1b*0\x1b+B\x1b((B\x1b)(Bqx", "─│ @2,0"},
		row{"no other marks", "\x1b*0\x1b-0\x1b((0\x1b()0\x1b)(0\x1b (0\x1b( 0qx", "qx @2,0"},
		row{"nor others behind them", "\x1b(1\x1b(A\x1b(b\x1b)Oqx\x0eqx", "qxqx @4,0"},
	)
}
