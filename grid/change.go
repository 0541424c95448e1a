package grid

import (
	"slices"

	"flipbook/api"
	"flipbook/cell"
	"flipbook/glyph"
)

// Put: a cell is there, with its rest behind it, if its rune is wide.
func (g *Grid) Put(x, y int, c api.Cell) {
	if !g.there(x, y) || !cell.Right(c) {
		return
	}
	l := g.Lines[y]
	l[x] = c
	if glyph.Wide(c.Rune) && x+1 < g.W {
		l[x+1] = api.Cell{Style: c.Style}
	}
	g.Lines[y] = cell.Mend(l)
}

// Clear: the cells from one place of a line up to another one are blank.
func (g *Grid) Clear(y, from, to int, s api.Style) {
	from, to = max(from, 0), min(to, g.W)
	if !g.there(0, y) || to <= from {
		return
	}
	l := g.Lines[y]
	copy(l[from:to], blanks(to-from, s))
	g.Lines[y] = cell.Mend(l)
}

// Open: blank cells come in at a place of a line, those behind go on, and out.
func (g *Grid) Open(x, y, n int, s api.Style) {
	if !g.there(x, y) {
		return
	}
	n = nearest(n, 0, g.W-x)
	l := g.Lines[y]
	g.Lines[y] = cell.Mend(slices.Concat(l[:x], blanks(n, s), l[x:g.W-n]))
}

// Shut: cells go out at a place of a line, blank ones come in at the end.
func (g *Grid) Shut(x, y, n int, s api.Style) {
	if !g.there(x, y) {
		return
	}
	n = nearest(n, 0, g.W-x)
	l := g.Lines[y]
	g.Lines[y] = cell.Mend(slices.Concat(l[:x], l[x+n:], blanks(n, s)))
}

// Up: lines go out at the top, the others go up, blank ones come in.
func (g *Grid) Up(top, end, n int, s api.Style) [][]api.Cell {
	part, n := g.part(top, end, n)
	all := slices.Concat(part, blankLines(n, g.W, s))
	copy(part, all[n:])
	// Behind those that go out stand the lines that the grid has now: the answer's room ends ahead of them, so that nobody gets at them by it.
	return all[:n:n]
}

// Down: lines go out at the end, the others go down, blank ones come in.
func (g *Grid) Down(top, end, n int, s api.Style) {
	part, n := g.part(top, end, n)
	copy(part, slices.Concat(blankLines(n, g.W, s), part))
}

// part: the lines from top up to end, as far as they are there, and how many of them n are.
func (g *Grid) part(top, end, n int) ([][]api.Cell, int) {
	top, end = max(top, 0), min(end, g.H)
	if end <= top {
		return nil, 0
	}
	return g.Lines[top:end], nearest(n, 0, end-top)
}

// Resize: lines go out at the top; others are cut off, or blank, at the right and at the end.
func (g *Grid) Resize(w, h, away int) [][]api.Cell {
	// The blank lines that come in behind those that stay are such as there would be anyhow, if there are more lines than stay.
	out := g.Up(0, g.H, away, api.Style{})
	next := New(w, h)
	for y := range min(g.H, next.H) {
		next.Lines[y] = Fit(g.Lines[y], next.W)
	}
	*g = *next
	return out
}
