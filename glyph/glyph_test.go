package glyph_test

import (
	"math"
	"slices"
	"testing"

	"flipbook/glyph"
)

// outside: runes that are none, the least and the greatest of the type among them.
func outside() []rune {
	return []rune{math.MinInt32, math.MinInt32 + 1, math.MinInt32 + 95, math.MinInt32 + 96, math.MinInt32 + 127, -0x110000, -0x4E2D, -128, -127, -97, -96, -32, -2, -1,
		0x110000, 0x110001, 0x110061, 0x120000, 0x200000, 0x104E2D0, math.MaxInt32 - 96, math.MaxInt32 - 1, math.MaxInt32}
}

func TestRight(t *testing.T) {
	for _, x := range []struct {
		r    rune
		want bool
	}{
		{0, false}, {7, false}, {10, false}, {27, false}, {31, false},
		{32, true}, {33, true}, {'a', true}, {96, true}, {126, true},
		{127, false},
		{128, true}, {0x9F, true}, {0xA0, true}, {0x301, true}, {0x4E2D, true}, {0xD7FF, true},
		{0xD800, false}, {0xDBFF, false}, {0xDC00, false}, {0xDFFF, false},
		{0xE000, true}, {0xFFFD, true}, {0xFFFE, true}, {0xFFFF, true}, {0x10000, true}, {0x1F600, true}, {0x3FFFE, true}, {0x10FFFE, true}, {0x10FFFF, true},
		{0x110000, false},
	} {
		if got := glyph.Right(x.r); got != x.want {
			t.Errorf("Right(%X): %v", x.r, got)
		}
	}
}

// The first and the last of each range are wide, the one ahead of it and the one behind it aren't (the chapter's ranges don't touch one another).
func TestWideAtEachEnd(t *testing.T) {
	for _, x := range [][2]rune{{0x1100, 0x115F}, {0x2E80, 0x303E}, {0x3040, 0xA4CF}, {0xAC00, 0xD7A3}, {0xF900, 0xFAFF}, {0xFE30, 0xFE6F}, {0xFF00, 0xFF60}, {0xFFE0, 0xFFE6}, {0x1F300, 0x1F64F}, {0x20000, 0x3FFFD}} {
		for _, r := range []rune{x[0], x[0] + 1, (x[0] + x[1]) / 2, x[1] - 1, x[1]} {
			if !glyph.Wide(r) {
				t.Errorf("%X isn't wide", r)
			}
		}
		for _, r := range []rune{x[0] - 1, x[1] + 1} {
			if glyph.Wide(r) {
				t.Errorf("%X is wide", r)
			}
		}
	}
}

func TestWideOfOthers(t *testing.T) {
	for _, r := range []rune{0, 7, 31, 32, 'a', '~', 127, 128, 0xE9, 0x301, 0x2500, 0x25C6, 0x303F, 0xA960, 0xD800, 0xDFFF, 0xE000, 0xFE20, 0xFF61, 0x10000, 0x1F1E6, 0x1F680, 0x40000, 0x10FFFF} {
		if glyph.Wide(r) {
			t.Errorf("%X is wide", r)
		}
	}
}

func TestDrawn(t *testing.T) {
	for r, want := range map[rune]rune{
		96: 0x25C6, 'a': 0x2592, 'b': 0x2409, 'c': 0x240C, 'd': 0x240D, 'e': 0x240A, 'f': 0xB0, 'g': 0xB1,
		'h': 0x2424, 'i': 0x240B, 'j': 0x2518, 'k': 0x2510, 'l': 0x250C, 'm': 0x2514, 'n': 0x253C, 'o': 0x23BA,
		'p': 0x23BB, 'q': 0x2500, 'r': 0x23BC, 's': 0x23BD, 't': 0x251C, 'u': 0x2524, 'v': 0x2534, 'w': 0x252C,
		'x': 0x2502, 'y': 0x2264, 'z': 0x2265, '{': 0x3C0, '|': 0x2260, '}': 0xA3, '~': 0xB7,
	} {
		if got := glyph.Drawn(r); got != want {
			t.Errorf("Drawn(%d): %X, want %X", r, got, want)
		}
	}
}

func TestDrawnOfOthers(t *testing.T) {
	for _, r := range append(outside(), 0, 7, 27, 31, 32, 'A', 'Q', 'Z', 94, 95, 127, 128, 0xB7, 0xE9, 0x2500, 0x25C6, 0x4E2D, 0xD800, 0x1F600, 0x10FFFF) {
		if got := glyph.Drawn(r); got != r {
			t.Errorf("Drawn(%d): %d", r, got)
		}
	}
}

func TestColumns(t *testing.T) {
	for _, x := range []struct {
		l    []rune
		want int
	}{
		{nil, 0},
		{[]rune{}, 0},
		{[]rune{'a'}, 1},
		{[]rune{0x4E2D}, 2},
		{[]rune{7}, 0},
		{[]rune{127}, 0},
		{[]rune{0xD800}, 0},
		{[]rune{-1}, 0},
		{[]rune{0x110000}, 0},
		{[]rune{'a', 0x4E2D}, 3},
		{[]rune{0x4E2D, 'a'}, 3},
		{[]rune{'a', 0x4E2D, 7}, 3},
		{[]rune{7, 0x4E2D, 31, 'a', 0xDFFF}, 3},
		{[]rune{'a', 'a', 'a'}, 3},
		{[]rune{0x4E2D, 0x4E2D, 0x1F600}, 6},
		{[]rune{0x303E, 0x303F, 0x3040}, 5},
		{[]rune{math.MinInt32, 'a', math.MaxInt32, 0x3FFFD, 0x3FFFE}, 4},
	} {
		if got := glyph.Columns(x.l...); got != x.want {
			t.Errorf("Columns(%X): %d, want %d", x.l, got, x.want)
		}
	}
}

func TestWrongRunes(t *testing.T) {
	for _, r := range outside() {
		if glyph.Right(r) || glyph.Wide(r) || glyph.Columns(r) != 0 {
			t.Errorf("%d: %v, %v, %d", r, glyph.Right(r), glyph.Wide(r), glyph.Columns(r))
		}
	}
	if n := glyph.Columns(outside()...); n != 0 {
		t.Errorf("all of them: %d", n)
	}
}

// Neither the runes handed in nor what stands behind them is changed.
func TestColumnsChangesNothing(t *testing.T) {
	all := []rune{'q', 0x4E2D, 7, 96, 0xD800}
	was := slices.Clone(all)
	for range 2 {
		if n := glyph.Columns(all[:2]...); n != 3 || !slices.Equal(all, was) {
			t.Errorf("%d, and %X", n, all)
		}
	}
}
