package glyph_test

import (
	"testing"

	"flipbook/glyph"
)

// An interval of the chapter's words: the kind holds from this rune on.
type from struct {
	r       rune
	columns int
}

// turns: where the count of columns turns to another one, up to the greatest rune of all, written by the chapter's words as one row.
func turns() []from {
	return []from{
		{-0x1000, 0}, {32, 1}, {127, 0}, {128, 1},
		{0x1100, 2}, {0x1160, 1},
		{0x2E80, 2}, {0x303F, 1}, {0x3040, 2}, {0xA4D0, 1},
		{0xAC00, 2}, {0xD7A4, 1}, {0xD800, 0}, {0xE000, 1},
		{0xF900, 2}, {0xFB00, 1},
		{0xFE30, 2}, {0xFE70, 1},
		{0xFF00, 2}, {0xFF61, 1},
		{0xFFE0, 2}, {0xFFE7, 1},
		{0x1F300, 2}, {0x1F650, 1},
		{0x20000, 2}, {0x3FFFE, 1},
		{0x110000, 0}, {0x112000, 0},
	}
}

// Each rune there is, and some that are none.
func TestEachRune(t *testing.T) {
	l := turns()
	all := 0
	for i, x := range l[:len(l)-1] {
		for r := x.r; r < l[i+1].r; r++ {
			if glyph.Columns(r) != x.columns || glyph.Wide(r) != (x.columns == 2) || glyph.Right(r) != (x.columns > 0) {
				t.Fatalf("%X: %d, %v, %v", r, glyph.Columns(r), glyph.Wide(r), glyph.Right(r))
			}
			if (glyph.Drawn(r) == r) != (r < 96 || r > 126) {
				t.Fatalf("Drawn(%X): %X", r, glyph.Drawn(r))
			}
			all += x.columns
		}
	}
	var each []rune
	for r := l[0].r; r < l[len(l)-1].r; r++ {
		each = append(each, r)
	}
	if n := glyph.Columns(each...); n != all {
		t.Errorf("all together: %d, want %d", n, all)
	}
}

// What a rune is drawn as takes one column, as it does itself, so that a set of signs moves nothing.
func TestDrawnTakesAsMuch(t *testing.T) {
	for r := rune(96); r <= 126; r++ {
		if glyph.Columns(glyph.Drawn(r)) != 1 {
			t.Errorf("Drawn(%d)", r)
		}
	}
}
