package term

import (
	"slices"

	"flipbook/api"
)

// goTo: the nearest place of the screen; the cursor waits behind the last column no more.
func (t *Term) goTo(x, y int) {
	t.Cursor.X, t.Cursor.Y = nearest(x, t.W), nearest(y, t.H)
	t.Cursor.Late = false
}

// home: to a column and a line, from 1 on.
func (t *Term) home(column, line int) {
	y := line - 1
	if t.Origin {
		y = min(t.Top+y, t.End-1)
	}
	t.goTo(column-1, y)
}

// within: a cursor of a screen that was of other sides.
func (t *Term) within(c api.Cursor) api.Cursor {
	c.Late = c.Late && c.X == t.W-1
	c.X, c.Y = nearest(c.X, t.W), nearest(c.Y, t.H)
	return c
}

func (t *Term) lineOn() {
	switch {
	case t.Cursor.Y == t.End-1:
		t.up(1)
	case t.Cursor.Y < t.H-1:
		t.Cursor.Y++
	}
}

func (t *Term) lineBack() {
	switch {
	case t.Cursor.Y == t.Top:
		t.Down(t.Top, t.End, 1, t.Cursor.Style)
	case t.Cursor.Y > 0:
		t.Cursor.Y--
	}
}

// up: the lines that go go up, and those that go out at the screen's top are kept.
func (t *Term) up(n int) {
	out := t.Up(t.Top, t.End, n, t.Cursor.Style)
	if !t.Alt && t.Top == 0 {
		t.keep(out)
	}
}

func (t *Term) keep(out [][]api.Cell) {
	all := slices.Concat(t.Back, out)
	// A copy, so that the lines ahead of the last ones are held no more.
	t.Back = slices.Clone(all[max(len(all)-api.MaxBack, 0):])
}

// nextTab: the column of the next stop, or the last one.
func (t *Term) nextTab() int {
	for x := t.Cursor.X + 1; x < t.W; x++ {
		if t.Tabs[x] {
			return x
		}
	}
	return t.W - 1
}

// nearest: of the places from 0 up to, without, n.
func nearest(x, n int) int { return max(0, min(x, n-1)) }
