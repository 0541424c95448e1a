package term

import (
	"flipbook/api"
	"flipbook/glyph"
)

// unknown stands for runes that may not stand on the screen.
const unknown = 0xFFFD

func (t *Term) print(r rune) {
	r = t.sign(r)
	columns := glyph.Columns(r)
	c := &t.Cursor
	if c.Late && t.Wrap {
		t.wrap()
	}
	if columns > t.W-c.X {
		t.makeRoom()
	}
	if t.Insert {
		t.Open(c.X, c.Y, columns, c.Style)
	}
	t.Put(c.X, c.Y, api.Cell{Rune: r, Style: c.Style})
	c.X += columns
	if c.X >= t.W {
		c.X = t.W - 1
		c.Late = t.Wrap
	}
}

// sign: what a rune is in the set in use, on this screen.
func (t *Term) sign(r rune) rune {
	set := 0
	if t.Shift {
		set = 1
	}
	if t.Draw[set] {
		r = glyph.Drawn(r)
	}
	if !glyph.Right(r) || t.W == 1 && glyph.Wide(r) {
		return unknown
	}
	return r
}

// makeRoom: for a wide rune, with the cursor in the last column.
func (t *Term) makeRoom() {
	if t.Wrap {
		t.wrap()
	} else {
		t.Cursor.X--
	}
}

func (t *Term) wrap() {
	t.Cursor.X = 0
	t.Cursor.Late = false
	t.lineOn()
}
