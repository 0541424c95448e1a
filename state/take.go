package state

import (
	"flipbook/api"
	"flipbook/cell"
	"flipbook/grid"
	"flipbook/term"
	"flipbook/vary"
	"flipbook/vt"
)

// take: the next terminal; false: there is none that may be. Where a number or a text alone isn't there, the reader tells it in the end.
func take(r *vary.Reader) (*term.Term, bool) {
	t, ok := takeSides(r)
	if !ok {
		return nil, false
	}
	m, s := modes(t), stops(t)
	takeFlags(r, m[:]...)
	takeFlags(r, s[:]...)
	ok = takeCursors(r, t) && takeScreen(r, t.Grid) && takeScreen(r, t.Other) && takeBack(r, t)
	if !ok {
		return nil, false
	}
	t.Title, t.Reply = r.Text(api.MaxText), r.Text(api.MaxData)
	t.Parser = takeParser(r)
	return t, t.Parser.Right()
}

// takeSides: a terminal of the next sides, and lines that go.
func takeSides(r *vary.Reader) (*term.Term, bool) {
	w, h := r.Num(api.MaxSide+1), r.Num(api.MaxSide+1)
	if w == 0 || h == 0 {
		return nil, false
	}
	t := term.New(w, h)
	t.Top, t.End = r.Num(h), r.Num(h+1)
	return t, t.Top < t.End
}

// takeFlags: as putFlags has them, as many as there are.
func takeFlags(r *vary.Reader, l ...*bool) {
	n := r.Num(1 << len(l))
	for i, on := range l {
		*on = n>>i&1 != 0
	}
}

func takeCursors(r *vary.Reader, t *term.Term) bool {
	for _, c := range cursors(t) {
		var ok bool
		c.X, c.Y = r.Num(t.W), r.Num(t.H)
		takeFlags(r, &c.Late)
		c.Style, ok = cell.TakeStyle(r)
		if !ok || c.Late && c.X != t.W-1 {
			return false
		}
	}
	return true
}

func takeScreen(r *vary.Reader, g *grid.Grid) bool {
	for y := range g.Lines {
		var ok bool
		g.Lines[y], ok = cell.TakeLine(r, g.W)
		if !ok {
			return false
		}
	}
	return true
}

func takeBack(r *vary.Reader, t *term.Term) bool {
	for range r.Num(api.MaxBack + 1) {
		w := r.Num(api.MaxSide + 1)
		l, ok := cell.TakeLine(r, w)
		if !ok || w == 0 {
			return false
		}
		t.Back = append(t.Back, l)
	}
	return true
}

// takeParser: it need not be right.
func takeParser(r *vary.Reader) vt.Parser {
	var p vt.Parser
	p.State, p.Within = r.Num(0), r.Num(0)
	p.Utf.N = copy(p.Utf.Bytes[:], r.Text(len(p.Utf.Bytes)))
	p.Marks = r.Text(api.MaxText)
	for range r.Num(api.MaxParams + 1) {
		p.Params = append(p.Params, r.Num(api.MaxParam+1))
	}
	p.Text = r.Text(api.MaxText)
	return p
}
