package term

import (
	"strconv"

	"flipbook/api"
	"flipbook/grid"
)

// move: the cursor goes, by n or to it; column is the second parameter.
func (t *Term) move(last byte, n, column int) {
	x, y := t.Cursor.X, t.Cursor.Y
	switch last {
	case 'A':
		t.goTo(x, max(y-n, t.highest(y)))
	case 'B', 'e':
		t.goTo(x, min(y+n, t.lowest(y)))
	case 'C', 'a':
		t.goTo(x+n, y)
	case 'D':
		t.goTo(x-n, y)
	case 'G', '`':
		t.goTo(n-1, y)
	case 'd':
		t.home(x+1, n)
	case 'H', 'f':
		t.home(column, n)
	}
}

// highest: the line up to which a cursor in a line may be moved by A.
func (t *Term) highest(y int) int {
	if y >= t.Top {
		return t.Top
	}
	return 0
}

// lowest: as highest, by B.
func (t *Term) lowest(y int) int {
	if y < t.End {
		return t.End - 1
	}
	return t.H - 1
}

// edit: cells of the cursor's line, and lines behind and ahead of it.
func (t *Term) edit(last byte, n, k int) {
	x, y, s := t.Cursor.X, t.Cursor.Y, t.Cursor.Style
	switch last {
	case '@':
		t.Open(x, y, n, s)
	case 'P':
		t.Shut(x, y, n, s)
	case 'X':
		t.Clear(y, x, x+n, s)
	case 'K':
		t.clearInLine(k)
	case 'J':
		t.clearScreen(k)
	}
}

func (t *Term) clearInLine(k int) {
	x, y, s := t.Cursor.X, t.Cursor.Y, t.Cursor.Style
	switch k {
	case 0:
		t.Clear(y, x, t.W, s)
	case 1:
		t.Clear(y, 0, x+1, s)
	case 2:
		t.Clear(y, 0, t.W, s)
	}
}

func (t *Term) clearScreen(k int) {
	switch k {
	case 0:
		t.clearInLine(0)
		t.clearLines(t.Cursor.Y+1, t.H)
	case 1:
		t.clearInLine(1)
		t.clearLines(0, t.Cursor.Y)
	case 2:
		t.clearLines(0, t.H)
	case 3:
		t.Back = nil
	}
}

// clearLines: from one line up to, without, another one.
func (t *Term) clearLines(from, to int) {
	for y := from; y < to; y++ {
		t.Clear(y, 0, t.W, t.Cursor.Style)
	}
}

// scroll: lines come in and go out, at the cursor's line or at both ends of those that go.
func (t *Term) scroll(last byte, n int) {
	y, s := t.Cursor.Y, t.Cursor.Style
	goes := t.Top <= y && y < t.End
	switch {
	case last == 'L' && goes:
		t.Down(y, t.End, n, s)
	case last == 'M' && goes:
		t.Up(y, t.End, n, s)
	case last == 'S':
		t.up(n)
	case last == 'T':
		t.Down(t.Top, t.End, n, s)
	}
}

// setLines: the lines from top up to, without, end go; an end of 0 is that of the screen.
func (t *Term) setLines(top, end int) {
	if end == 0 || end > t.H {
		end = t.H
	}
	if end-top >= 2 {
		t.Top, t.End = top, end
	}
	t.home(1, 1)
}

func (t *Term) clearTabs(k int) {
	switch k {
	case 0:
		t.Tabs[t.Cursor.X] = false
	case 3:
		t.Tabs = [api.MaxSide]bool{}
	}
}

// setMode: one of those behind the mark ?.
func (t *Term) setMode(mode int, on bool) {
	switch mode {
	case 6:
		t.Origin = on
		t.home(1, 1)
	case 7:
		t.Wrap = on
		t.Cursor.Late = t.Cursor.Late && on
	case 25:
		t.Hidden = !on
	case 1049:
		t.change(on)
	}
}

// change: to the second screen, which is blank then, or back to the first one, which is as it was.
func (t *Term) change(alt bool) {
	if t.Alt == alt {
		return
	}
	t.Alt = alt
	t.Grid, t.Other = t.Other, t.Grid
	t.Cursor, t.Away = t.Away, t.Cursor
	if alt {
		t.Cursor = t.Away
		t.Grid = grid.New(t.W, t.H)
	}
}

// report: what a program asks, as if the answer were typed.
func (t *Term) report(last byte, k int) {
	switch {
	case last == 'n' && k == 5:
		t.answer("\x1b[0n")
	case last == 'n' && k == 6:
		t.answer("\x1b[" + strconv.Itoa(t.line()) + ";" + strconv.Itoa(t.Cursor.X+1) + "R")
	case last == 'c' && k == 0:
		t.answer("\x1b[?6c")
	}
}

// line: the cursor's, as home counts them.
func (t *Term) line() int {
	if t.Origin {
		return t.Cursor.Y - t.Top + 1
	}
	return t.Cursor.Y + 1
}

func (t *Term) answer(s string) {
	if len(t.Reply)+len(s) <= api.MaxData {
		t.Reply += s
	}
}
