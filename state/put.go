package state

import (
	"flipbook/api"
	"flipbook/cell"
	"flipbook/term"
	"flipbook/utf"
	"flipbook/vary"
	"flipbook/vt"
)

func put(b []byte, t *term.Term) []byte {
	m, s := modes(t), stops(t)
	b = putNumbers(b, t.W, t.H, t.Top, t.End)
	b = putFlags(b, m[:]...)
	b = putFlags(b, s[:]...)
	for _, c := range cursors(t) {
		b = putCursor(b, *c)
	}
	b = putLines(b, t.Lines)
	b = putLines(b, t.Other.Lines)
	b = putBack(b, t.Back)
	b = vary.PutText(b, t.Title)
	b = vary.PutText(b, t.Reply)
	return putParser(b, t.Parser)
}

func putNumbers(b []byte, l ...int) []byte {
	for _, n := range l {
		b = vary.Put(b, uint64(n))
	}
	return b
}

// putFlags: a number, of which each flag that is on is a bit, the first one the lowest.
func putFlags(b []byte, l ...*bool) []byte {
	n := uint64(0)
	for i, on := range l {
		if *on {
			n |= 1 << i
		}
	}
	return vary.Put(b, n)
}

func putCursor(b []byte, c api.Cursor) []byte {
	b = putNumbers(b, c.X, c.Y)
	b = putFlags(b, &c.Late)
	return cell.PutStyle(b, c.Style)
}

func putLines(b []byte, lines [][]api.Cell) []byte {
	for _, l := range lines {
		b = cell.PutLine(b, l)
	}
	return b
}

// putBack: these lines tell how long they are: they may be from when the screen had other sides.
func putBack(b []byte, lines [][]api.Cell) []byte {
	b = putNumbers(b, len(lines))
	for _, l := range lines {
		b = putNumbers(b, len(l))
		b = cell.PutLine(b, l)
	}
	return b
}

func putParser(b []byte, p vt.Parser) []byte {
	b = putNumbers(b, p.State, p.Within)
	b = vary.PutText(b, underWay(p.Utf))
	b = vary.PutText(b, p.Marks)
	b = putNumbers(b, len(p.Params))
	b = putNumbers(b, p.Params...)
	return vary.PutText(b, p.Text)
}

// underWay: the bytes of a rune; of an N that may not be, the nearest one counts, so that no call panics.
func underWay(d utf.Decoder) string {
	return string(d.Bytes[:min(max(d.N, 0), len(d.Bytes))])
}
