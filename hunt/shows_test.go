package hunt_test

import (
	"strings"
	"testing"

	"flipbook/api"
	"flipbook/grid"
	"flipbook/hunt"
	"flipbook/state"
	"flipbook/term"
)

// The words as literals: what is written on a screen of these sides, and what it shows then.
func TestShows(t *testing.T) {
	const yes, no = true, false
	for _, c := range []struct {
		what       string
		w, h       int
		data, text string
		want       bool
	}{
		{"the beginning of a line", 9, 1, "one two", "one", yes},
		{"one rune of it", 9, 1, "one two", "o", yes},
		{"within", 9, 1, "one two", "e t", yes},
		{"the end", 9, 1, "one two", "two", yes},
		{"the last rune", 9, 1, "one tex", "x", yes},
		{"the last column", 4, 1, "abcd", "d", yes},
		{"all of it", 9, 1, "one two", "one two", yes},
		{"a rune more than all", 9, 1, "one two", "one two!", no},
		{"a rune more ahead of all", 9, 1, "one two", "!one two", no},
		{"what isn't there", 9, 1, "one two", "three", no},
		{"what begins so and goes on otherwise", 9, 1, "one two", "ons", no},
		{"what begins so more than once", 9, 1, "aaab", "aab", yes},
		{"runes in another order", 9, 1, "one two", "two one", no},
		{"capitals", 9, 1, "one two", "One", no},
		{"the same text twice in a line", 9, 1, "abab", "abab", yes},
		{"the same text more often than it stands", 9, 1, "abab", "ababab", no},
		{"the first line", 5, 3, "ab\r\ncd\r\nef", "ab", yes},
		{"the second line", 5, 3, "ab\r\ncd\r\nef", "cd", yes},
		{"the last line", 5, 3, "ab\r\ncd\r\nef", "ef", yes},
		{"in two lines", 5, 3, "ab\r\ncab\r\nef", "ab", yes},
		{"from one line to the next", 3, 2, "abcd", "cd", no},
		{"all of both lines", 3, 2, "abcdef", "abcdef", no},
		{"over the end with a new line between", 3, 2, "abc\r\ndef", "c\nd", no},
		{"over the end with both signs between", 3, 2, "abc\r\ndef", "c\r\nd", no},
		{"over the end with a blank between", 3, 2, "abc\r\ndef", "c d", no},
		{"from the last line to the first one", 3, 2, "abc\r\ndef", "fa", no},
		{"one column, of many lines", 1, 3, "abc", "ab", no},
		{"one column, one of them", 1, 3, "abc", "b", yes},

		{"the empty text", 9, 1, "one two", "", no},
		{"the empty text of a blank screen", 9, 1, "", "", no},
		{"a text of a blank screen", 9, 1, "", "a", no},

		{"a blank within", 9, 1, "a b", " ", yes},
		{"a blank with what is about it", 9, 1, "a b", "a b", yes},
		{"two blanks within", 9, 1, "a  b", "  ", yes},
		{"two blanks of one", 9, 1, "a b", "  ", no},
		{"columns that nothing was written to", 9, 1, "a\x1b[1;5Hb", "a   b", yes},
		{"a tab's columns", 20, 1, "a\tb", "a       b", yes},
		{"a tab", 20, 1, "a\tb", "\t", no},
		{"a blank ahead of a line", 9, 1, "  ab", " ab", yes},
		{"columns ahead that nothing was written to", 9, 1, "\x1b[1;3Hab", "  ab", yes},
		{"more blanks ahead than there are", 9, 1, "  ab", "   ab", no},
		{"a blank at the end", 9, 1, "ab ", "ab ", no},
		{"a blank at the end alone", 9, 1, "ab ", " ", no},
		{"a blank in the last column", 3, 1, "ab ", "b ", no},
		{"a line of blanks", 3, 1, "   ", " ", no},
		{"a blank of a blank screen", 3, 2, "", " ", no},
		{"a coloured blank at the end", 9, 1, "ab\x1b[41m \x1b[m", "ab ", no},
		{"a line cleared in colour", 9, 1, "\x1b[41m\x1b[2J", " ", no},
		{"a blank at the end of one line alone", 5, 2, "ab \r\na b", "a b", yes},
		{"a blank that isn't 32 at the end", 9, 1, "ab\u00A0", "ab\u00A0", yes},
		{"a wide blank at the end", 9, 1, "ab\u3000", "b\u3000", yes},

		{"a wide rune", 9, 1, "a中b", "中", yes},
		{"a wide rune with what is about it", 9, 1, "a中b", "a中b", yes},
		{"a wide rune's second half as a blank", 9, 1, "a中b", "中 b", no},
		{"a wide rune's second half as a rune 0", 9, 1, "a中b", "中\x00", no},
		{"two wide runes", 9, 1, "中文", "中文", yes},
		{"two wide runes the other way round", 9, 1, "中文", "文中", no},
		{"a wide rune that didn't fit in the line", 3, 2, "ab中", "b中", no},
		{"a wide rune in the next line", 3, 2, "ab中", "中", yes},
		{"a wide rune whose second half was written over", 5, 1, "中\x1b[1;2Hx", "中", no},
		{"a wide rune that left a blank", 5, 1, "中\x1b[1;2Hx", " x", yes},
		{"a wide rune whose first half was written over", 5, 1, "中y\x1b[1;1Hx", "x y", yes},
		{"a wide rune on one column", 1, 1, "中", "中", no},

		{"a rune of two bytes", 9, 1, "aéb", "é", yes},
		{"a rune of three bytes", 9, 1, "a€b", "a€b", yes},
		{"a rune of four bytes", 9, 1, "a𝄞b", "𝄞b", yes},
		{"a wide rune of four bytes", 9, 1, "a🎉b", "a🎉b", yes},
		{"another rune of two bytes", 9, 1, "aéb", "è", no},
		{"a rune that is put together otherwise", 9, 1, "aéb", "e\u0301", no},
		{"a rune's first byte", 9, 1, "aéb", "\xC3", yes},
		{"a rune's last byte", 9, 1, "aéb", "\xA9", yes},
		{"a rune's last byte, and what is behind", 9, 1, "aéb", "\xA9b", yes},
		{"two of three bytes", 9, 1, "a€b", "\xE2\x82", yes},
		{"the last of one and the first of the next", 9, 1, "€é", "\xAC\xC3", yes},
		{"a rune's bytes in another order", 9, 1, "aéb", "\xA9\xC3", no},
		{"bytes that are no UTF-8", 9, 1, "aéb", "\xFF", no},
		{"bytes that are no UTF-8 behind what is there", 9, 1, "aéb", "b\xFF", no},
		{"a rune too long in bytes", 9, 1, "a/b", "\xC0\xAF", no},
		{"what stands for wrong bytes", 9, 1, "a\xFFb", "a\uFFFDb", yes},
		{"the wrong bytes themselves", 9, 1, "a\xFFb", "\xFF", no},
		{"other wrong bytes for those", 9, 1, "a\xFFb", "\xFE", no},
		{"a half of a pair as bytes", 9, 1, "a\uFFFDb", "\xED\xA0\x80", no},
		{"a byte 0", 9, 1, "a\x00b", "\x00", no},
		{"what a byte 0 was between", 9, 1, "a\x00b", "ab", yes},

		{"a text in two styles", 9, 1, "a\x1b[1;31mb\x1b[mc", "abc", yes},
		{"the signs of a style", 9, 1, "a\x1b[1;31mb", "[1;31m", no},
		{"a set of signs", 9, 1, "\x1b(0q\x1b(B", "─", yes},
		{"the rune that was written for a sign", 9, 1, "\x1b(0q\x1b(B", "q", no},
		{"a title", 9, 1, "\x1b]0;title\x07", "title", no},
		{"an answer", 9, 1, "\x1b[c", "6c", no},
		{"a rune that isn't whole yet", 9, 1, "a\xE4\xB8", "\xE4\xB8", no},
		{"a sequence that isn't whole yet", 9, 1, "a\x1b[31", "31", no},
		{"what was written over", 9, 1, "abc\rx", "abc", no},
		{"what it was written over with", 9, 1, "abc\rx", "xbc", yes},
		{"what was cleared", 9, 1, "abc\x1b[2K", "abc", no},
		{"with the cursor hidden", 9, 1, "\x1b[?25labc", "abc", yes},

		{"a line that went out at the top", 5, 2, "ab\r\ncd\r\nef", "ab", no},
		{"a line that stayed then", 5, 2, "ab\r\ncd\r\nef", "cd", yes},
		{"the last line then", 5, 2, "ab\r\ncd\r\nef", "ef", yes},
		{"a line pushed out at the end", 5, 2, "ab\r\ncd\x1b[H\x1bM", "cd", no},

		{"the main screen", 5, 2, "main", "main", yes},
		{"the main one while the alternate one is shown", 5, 2, "main\x1b[?1049h", "main", no},
		{"the alternate one while it is shown", 5, 2, "main\x1b[?1049h\x1b[Halt", "alt", yes},
		{"the main one behind it", 5, 2, "main\x1b[?1049h\x1b[Halt\x1b[?1049l", "main", yes},
		{"the alternate one that isn't shown any more", 5, 2, "main\x1b[?1049h\x1b[Halt\x1b[?1049l", "alt", no},
		{"both, one behind the other", 9, 2, "main\x1b[?1049halt", "mainalt", no},
	} {
		x := written(c.w, c.h, c.data)
		if got := hunt.Shows(x, c.text); got != c.want {
			t.Errorf("%s: %q of %q: %v", c.what, c.text, c.data, got)
		}
		if shows(x, c.text) != c.want {
			t.Errorf("%s: the model says otherwise", c.what)
		}
	}
}

// Lines as long as may be, and texts that are longer.
func TestShowsLong(t *testing.T) {
	all := strings.Repeat("abcdef", api.MaxSide/6)
	x := written(api.MaxSide, api.MaxSide, strings.Repeat("\n", api.MaxSide-1)+"\r"+all)
	for text, want := range map[string]bool{
		all:                         true,
		all[1:]:                     true,
		all[:59]:                    true,
		all + "a":                   false,
		"f" + all:                   false,
		all + " ":                   false,
		all + all:                   false,
		strings.Repeat(all, 1000):   false,
		strings.Repeat("f", 100000): false,
		"fa":                        true,
		"ff":                        false,
	} {
		if hunt.Shows(x, text) != want {
			t.Errorf("%.70q: %v", text, !want)
		}
	}
}

// Each piece of each line's Text stands in it; what is a byte longer at an end doesn't, unless it stands elsewhere.
func TestShowsEachPiece(t *testing.T) {
	x := written(9, 4, "one 中é\r\n  €𝄞 x \r\n\r\nlast line, and more")
	for _, l := range x.Lines {
		s := lineText(l)
		for from := range len(s) + 1 {
			for to := from; to <= len(s); to++ {
				if hunt.Shows(x, s[from:to]) != (from < to) {
					t.Errorf("%q of %q", s[from:to], s)
				}
			}
		}
		for _, more := range []string{" ", "\x00", "\n", "x", "\xFF"} {
			if s != "" && (hunt.Shows(x, s+more) != shows(x, s+more) || hunt.Shows(x, more+s) != shows(x, more+s)) {
				t.Errorf("%q and %q", s, more)
			}
		}
	}
}

// Terminals that look like chance, and texts of which some stand in them.
func TestShowsOfChance(t *testing.T) {
	d := dice(2)
	yes := 0
	for range 3000 {
		x := term.New(1+d.upTo(6), 1+d.upTo(3))
		for range d.upTo(8) {
			x.Write(chanceData(&d))
		}
		before := string(state.Encode(x))
		for range 12 {
			text := ""
			for range d.upTo(3) {
				text += pick(&d, "a", "b", " ", "中", "é", "\uFFFD", "\xE4", "\xB8", "\xAD", "\xFF", "\x00", "2", "J")
			}
			got := hunt.Shows(x, text)
			if got != shows(x, text) {
				t.Fatalf("%q: %v of %v", text, got, x.Lines)
			}
			if got {
				yes++
			}
		}
		if string(state.Encode(x)) != before {
			t.Fatal("the terminal became another one")
		}
	}
	if yes < 1000 {
		t.Error("hardly a text was shown:", yes)
	}
}

// Shows hangs on the screen that is shown alone.
func TestShowsOfTheScreenAlone(t *testing.T) {
	x := written(6, 2, "ab\r\ncd")
	y := term.New(6, 2)
	y.Write("zz\r\nzz\r\nzz\x1b[?1049h\x1b[2;3Hzz\x1b]0;zz\x07\x1b[c\x1b[")
	y.Grid = x.Grid.Copy()
	for text, want := range map[string]bool{"ab": true, "cd": true, "zz": false, "z": false, "6": false} {
		if hunt.Shows(x, text) != want || hunt.Shows(y, text) != want {
			t.Errorf("%q", text)
		}
	}
	for n := 1; n <= 3; n++ {
		y.Grid = grid.New(n, n)
		y.Put(n-1, n-1, api.Cell{Rune: 'q'})
		if !hunt.Shows(y, "q") || hunt.Shows(y, "ab") {
			t.Error(n)
		}
	}
}
