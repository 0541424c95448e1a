package term_test

import (
	"slices"
	"strconv"
	"strings"

	"flipbook/api"
	"flipbook/cell"
	"flipbook/glyph"
	"flipbook/grid"
	"flipbook/term"
	"flipbook/vt"
)

// A model of a terminal, by the chapter's words: its screens and their cursors stay where they are, and which one is shown is a number; a changed line is told cell by cell.
type model struct {
	w, h        int
	screens     [2][][]api.Cell
	cursors     [2]api.Cursor
	saved       api.Cursor
	shown       int
	first, last int // of the lines that go, both among them
	stops       map[int]bool
	modes       map[string]bool
	drawn       [2]bool
	set         int
	title       string
	back        [][]api.Cell
	parser      vt.Parser
	reply       string
}

func between(n, least, most int) int {
	if n < least {
		return least
	}
	if n > most {
		return most
	}
	return n
}

func newModel(w, h int) *model {
	m := &model{w: between(w, 1, 60), h: between(h, 1, 60)}
	m.begin()
	return m
}

// begin: as at first, but the sides, the parser and the reply.
func (m *model) begin() {
	m.screens = [2][][]api.Cell{m.blank(), m.blank()}
	m.cursors, m.saved, m.shown = [2]api.Cursor{}, api.Cursor{}, 0
	m.first, m.last = 0, m.h-1
	m.stops = map[int]bool{8: true, 16: true, 24: true, 32: true, 40: true, 48: true, 56: true}
	m.modes = map[string]bool{"wrap": true}
	m.drawn, m.set, m.title, m.back = [2]bool{}, 0, "", nil
}

func (m *model) blank() (l [][]api.Cell) {
	for range m.h {
		l = append(l, slices.Repeat([]api.Cell{{Rune: ' '}}, m.w))
	}
	return l
}

// term: the terminal that the model is one of.
func (m *model) term() *term.Term {
	x := &term.Term{
		Grid:  &grid.Grid{W: m.w, H: m.h, Lines: m.screens[m.shown]},
		Other: &grid.Grid{W: m.w, H: m.h, Lines: m.screens[1-m.shown]},
		Saved: m.saved, Cursor: m.cursors[m.shown], Away: m.cursors[1-m.shown],
		Top: m.first, End: m.last + 1,
		Wrap: m.modes["wrap"], Origin: m.modes["origin"], Insert: m.modes["insert"], Hidden: m.modes["hidden"],
		Draw: m.drawn, Shift: m.set == 1, Alt: m.shown == 1,
		Title: m.title, Back: m.back, Parser: m.parser, Reply: m.reply,
	}
	for column := range x.Tabs {
		x.Tabs[column] = m.stops[column]
	}
	return x
}

func (m *model) write(s string) {
	parser, acts := m.parser.All(s)
	for _, a := range acts {
		m.act(a)
	}
	m.parser = parser
}

func (m *model) act(a api.Act) {
	switch {
	case a.Kind == api.Print:
		m.print(a.Rune)
	case a.Kind == api.Exec:
		m.exec(int(a.Last))
	case a.Kind == api.Esc && a.Marks == "":
		m.esc(string(rune(a.Last)))
	case a.Kind == api.Esc && (a.Marks == "(" || a.Marks == ")") && (a.Last == '0' || a.Last == 'B'):
		m.drawn[strings.Index("()", a.Marks)] = a.Last == '0'
	case a.Kind == api.Csi && a.Marks == "":
		m.csi(a)
	case a.Kind == api.Csi && a.Marks == "?" && (a.Last == 'h' || a.Last == 'l'):
		for _, p := range a.Params {
			m.mode(p, a.Last == 'h')
		}
	case a.Kind == api.Osc:
		for _, begin := range []string{"0;", "2;"} {
			if rest, ok := strings.CutPrefix(a.Text, begin); ok {
				m.title = rest
			}
		}
	}
}

func (m *model) cursor() *api.Cursor { return &m.cursors[m.shown] }
func (m *model) style() api.Style    { return m.cursor().Style }

func (m *model) goes(x, y int) {
	c := m.cursor()
	c.X, c.Y, c.Late = between(x, 0, m.w-1), between(y, 0, m.h-1), false
}

func (m *model) home(column, line int) {
	if m.modes["origin"] {
		line = min(line+m.first, m.last+1)
	}
	m.goes(column-1, line-1)
}

// pass: n lines of those from first to last go out at one end, blank ones come in at the other one.
func (m *model) pass(first, last, n int, down bool) (out [][]api.Cell) {
	lines := m.screens[m.shown]
	going := slices.Clone(lines[first : last+1])
	for range min(n, len(going)) {
		fresh := slices.Repeat([]api.Cell{cell.Blank(m.style())}, m.w)
		if down {
			going = append([][]api.Cell{fresh}, going[:len(going)-1]...)
		} else {
			out = append(out, going[0])
			going = append(going[1:], fresh)
		}
	}
	copy(lines[first:], going)
	return out
}

func (m *model) kept(out [][]api.Cell) {
	for _, l := range out {
		m.back = append(m.back, l)
		if len(m.back) > 20 {
			m.back = m.back[1:]
		}
	}
}

func (m *model) up(n int) {
	out := m.pass(m.first, m.last, n, false)
	if m.shown == 0 && m.first == 0 {
		m.kept(out)
	}
}

func (m *model) lineOn() {
	if c := m.cursor(); c.Y == m.last {
		m.up(1)
	} else if c.Y+1 < m.h {
		c.Y++
	}
}

func (m *model) lineBack() {
	if c := m.cursor(); c.Y == m.first {
		m.pass(m.first, m.last, 1, true)
	} else if c.Y > 0 {
		c.Y--
	}
}

// line: each cell of a line told by its column, mended.
func (m *model) line(y int, tell func(x int) api.Cell) {
	var l []api.Cell
	for x := range m.w {
		l = append(l, tell(x))
	}
	m.screens[m.shown][y] = cell.Mend(l)
}

// cells: of the cursor's line, each told by its column and what the line was.
func (m *model) cells(tell func(x int, was []api.Cell) api.Cell) {
	y := m.cursor().Y
	was := m.screens[m.shown][y]
	m.line(y, func(x int) api.Cell { return tell(x, was) })
}

func (m *model) open(n int) {
	m.cells(func(x int, was []api.Cell) api.Cell {
		switch at := m.cursor().X; {
		case x < at:
			return was[x]
		case x < at+n:
			return cell.Blank(m.style())
		}
		return was[x-n]
	})
}

func (m *model) shut(n int) {
	m.cells(func(x int, was []api.Cell) api.Cell {
		switch at := m.cursor().X; {
		case x < at:
			return was[x]
		case x+n >= m.w:
			return cell.Blank(m.style())
		}
		return was[x+n]
	})
}

// clear: the cells of the cursor's line from one column to another one, both among them.
func (m *model) clear(first, last int) {
	m.cells(func(x int, was []api.Cell) api.Cell {
		if x < first || x > last {
			return was[x]
		}
		return cell.Blank(m.style())
	})
}

// wipe: all lines that the question is true of.
func (m *model) wipe(asked func(y int) bool) {
	for y := range m.h {
		if asked(y) {
			m.line(y, func(int) api.Cell { return cell.Blank(m.style()) })
		}
	}
}

func (m *model) print(r rune) {
	if m.drawn[m.set] {
		r = glyph.Drawn(r)
	}
	if !glyph.Right(r) || m.w == 1 && glyph.Wide(r) {
		r = '\uFFFD'
	}
	c, last, wide := m.cursor(), m.w-1, glyph.Wide(r)
	if c.Late && m.modes["wrap"] {
		c.X, c.Late = 0, false
		m.lineOn()
	}
	if wide && c.X == last && m.modes["wrap"] {
		c.X = 0
		m.lineOn()
	} else if wide && c.X == last {
		c.X--
	}
	columns := 1
	if wide {
		columns = 2
	}
	if m.modes["insert"] {
		m.open(columns)
	}
	m.cells(func(x int, was []api.Cell) api.Cell {
		switch {
		case x == c.X:
			return api.Cell{Rune: r, Style: c.Style}
		case x == c.X+1 && wide:
			return api.Cell{Style: c.Style}
		}
		return was[x]
	})
	if c.X += columns; c.X > last {
		c.X, c.Late = last, m.modes["wrap"]
	}
}

func (m *model) exec(b int) {
	c := m.cursor()
	switch b {
	case 8:
		m.goes(c.X-1, c.Y)
	case 9:
		x := c.X + 1
		for x < m.w-1 && !m.stops[x] {
			x++
		}
		m.goes(x, c.Y)
	case 10, 11, 12:
		m.lineOn()
		c.Late = false
	case 13:
		m.goes(0, c.Y)
	case 14:
		m.set = 1
	case 15:
		m.set = 0
	}
}

func (m *model) esc(last string) {
	c := m.cursor()
	switch last {
	case "7":
		m.saved = *c
	case "8":
		*c = m.saved
	case "D":
		m.lineOn()
		c.Late = false
	case "E":
		m.lineOn()
		m.goes(0, c.Y)
	case "M":
		m.lineBack()
		c.Late = false
	case "H":
		m.stops[c.X] = true
	case "c":
		m.begin()
	}
}

func (m *model) csi(a api.Act) {
	k, second := 0, 0
	if len(a.Params) > 0 {
		k = a.Params[0]
	}
	if len(a.Params) > 1 {
		second = a.Params[1]
	}
	n := k
	if n == 0 {
		n = 1
	}
	last := string(rune(a.Last))
	m.moved(last, n, second)
	m.changed(last, n, k)
	m.steered(last, n, k, second, a.Params)
}

func (m *model) moved(last string, n, second int) {
	c := m.cursor()
	switch last {
	case "A":
		if c.Y >= m.first {
			m.goes(c.X, max(c.Y-n, m.first))
		} else {
			m.goes(c.X, c.Y-n)
		}
	case "B", "e":
		if c.Y <= m.last {
			m.goes(c.X, min(c.Y+n, m.last))
		} else {
			m.goes(c.X, c.Y+n)
		}
	case "C", "a":
		m.goes(c.X+n, c.Y)
	case "D":
		m.goes(c.X-n, c.Y)
	case "G", "`":
		m.goes(n-1, c.Y)
	case "d":
		m.home(c.X+1, n)
	case "H", "f":
		if second == 0 {
			second = 1
		}
		m.home(second, n)
	}
}

func (m *model) changed(last string, n, k int) {
	c := m.cursor()
	switch last + strconv.Itoa(k) {
	case "K0", "J0":
		m.clear(c.X, m.w-1)
	case "K1", "J1":
		m.clear(0, c.X)
	case "K2":
		m.clear(0, m.w-1)
	case "J2":
		m.wipe(func(int) bool { return true })
	case "J3":
		m.back = nil
	}
	switch last + strconv.Itoa(k) {
	case "J0":
		m.wipe(func(y int) bool { return y > c.Y })
	case "J1":
		m.wipe(func(y int) bool { return y < c.Y })
	}
	among := m.first <= c.Y && c.Y <= m.last
	switch {
	case last == "@":
		m.open(n)
	case last == "P":
		m.shut(n)
	case last == "X":
		m.clear(c.X, c.X+n-1)
	case last == "L" && among:
		m.pass(c.Y, m.last, n, true)
	case last == "M" && among:
		m.pass(c.Y, m.last, n, false)
	case last == "S":
		m.up(n)
	case last == "T":
		m.pass(m.first, m.last, n, true)
	}
}

func (m *model) steered(last string, n, k, second int, params []int) {
	c := m.cursor()
	switch last {
	case "m":
		c.Style = cell.Change(c.Style, params...)
	case "r":
		if second == 0 || second > m.h {
			second = m.h
		}
		if n < second {
			m.first, m.last = n-1, second-1
		}
		m.home(1, 1)
	}
	line := c.Y + 1
	if m.modes["origin"] {
		line -= m.first
	}
	switch last + strconv.Itoa(k) {
	case "g0":
		delete(m.stops, c.X)
	case "g3":
		clear(m.stops)
	case "h4", "l4":
		m.modes["insert"] = last == "h"
	case "n5":
		m.answer("\x1b[0n")
	case "n6":
		m.answer("\x1b[" + strconv.Itoa(line) + ";" + strconv.Itoa(c.X+1) + "R")
	case "c0":
		m.answer("\x1b[?6c")
	}
}

func (m *model) answer(s string) {
	if all := m.reply + s; len(all) <= 400 {
		m.reply = all
	}
}

func (m *model) mode(p int, on bool) {
	switch p {
	case 6:
		m.modes["origin"] = on
		m.home(1, 1)
	case 7:
		m.modes["wrap"] = on
		if !on {
			m.cursor().Late = false
		}
	case 25:
		m.modes["hidden"] = !on
	case 1049:
		if on && m.shown == 0 {
			m.shown = 1
			m.screens[1], m.cursors[1] = m.blank(), m.cursors[0]
		} else if !on {
			m.shown = 0
		}
	}
}

func (m *model) take() string {
	s := m.reply
	m.reply = ""
	return s
}

func (m *model) resize(w, h int) {
	m.w, m.h = between(w, 1, 60), between(h, 1, 60)
	for away := m.cursor().Y - m.h + 1; away > 0; away-- {
		if m.shown == 0 {
			m.kept(m.screens[0][:1])
		}
		m.screens[m.shown] = m.screens[m.shown][1:]
		m.cursor().Y--
	}
	for i := range m.screens {
		next := m.blank()
		for y, l := range m.screens[i] {
			if y < m.h {
				copy(next[y], l)
				next[y] = cell.Mend(next[y])
			}
		}
		m.screens[i] = next
	}
	m.first, m.last = 0, m.h-1
	for _, c := range []*api.Cursor{&m.cursors[0], &m.cursors[1], &m.saved} {
		c.Late = c.Late && c.X == m.w-1
		c.X, c.Y = between(c.X, 0, m.w-1), between(c.Y, 0, m.h-1)
	}
}
