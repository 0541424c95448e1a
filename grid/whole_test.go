package grid_test

import (
	"slices"
	"testing"

	"flipbook/api"
	"flipbook/cell"
	"flipbook/grid"
)

// wideRune: those that the tests write; others of theirs are narrow.
func wideRune(r rune) bool { return r == '中' || r == '한' }

// A model of mended: the line is read from its beginning on, a wide rune with its rest at once, and each half alone is a blank.
func mended(l []api.Cell) (out []api.Cell) {
	for i := 0; i < len(l); i++ {
		c := l[i]
		if wideRune(c.Rune) && i+1 < len(l) && l[i+1] == (api.Cell{Style: c.Style}) {
			out = append(out, c, l[i+1])
			i++
			continue
		}
		if wideRune(c.Rune) || c.Rune == 0 {
			c.Rune = ' '
		}
		out = append(out, c)
	}
	return out
}

// lineOf: a model of a changed line: each cell told by its column, mended.
func lineOf(w int, tell func(x int) api.Cell) []api.Cell {
	var l []api.Cell
	for x := range w {
		l = append(l, tell(x))
	}
	return mended(l)
}

func blankOf(s api.Style) api.Cell { return api.Cell{Rune: ' ', Style: api.Style{Back: s.Back}} }

// from: a line's cell, a blank one of a style where there is none.
func from(l []api.Cell, x int, s api.Style) api.Cell {
	if x >= len(l) {
		return blankOf(s)
	}
	return l[x]
}

func modelOfPut(l []api.Cell, at int, c api.Cell) []api.Cell {
	return lineOf(len(l), func(x int) api.Cell {
		switch {
		case x == at:
			return c
		case x == at+1 && wideRune(c.Rune):
			return api.Cell{Style: c.Style}
		}
		return l[x]
	})
}

func modelOfClear(l []api.Cell, begin, end int, s api.Style) []api.Cell {
	return lineOf(len(l), func(x int) api.Cell {
		if begin <= x && x < end {
			return blankOf(s)
		}
		return l[x]
	})
}

func modelOfOpen(l []api.Cell, at, n int, s api.Style) []api.Cell {
	return lineOf(len(l), func(x int) api.Cell {
		switch {
		case x < at || n < 0:
			return l[x]
		case x < at+n:
			return blankOf(s)
		}
		return l[x-n]
	})
}

func modelOfShut(l []api.Cell, at, n int, s api.Style) []api.Cell {
	return lineOf(len(l), func(x int) api.Cell {
		if x < at || n < 0 {
			return l[x]
		}
		return from(l, x+n, s)
	})
}

func modelOfFit(l []api.Cell, w int) []api.Cell {
	return lineOf(max(w, 0), func(x int) api.Cell { return from(l, x, plain) })
}

// eachLine: all whole lines of 1 up to most cells out of some kinds of cells.
func eachLine(most int, f func(l []api.Cell)) {
	kinds := [][]api.Cell{row("a", plain), row("b", red), row(" ", back), row("中<", plain), row("中<", red)}
	var grow func(l []api.Cell)
	grow = func(l []api.Cell) {
		if len(l) > 0 {
			f(l)
		}
		for _, k := range kinds {
			if len(l)+len(k) <= most {
				grow(joined(l, k))
			}
		}
	}
	grow(nil)
}

// expectLine: behind a call for a grid of that line alone, the line is this one, and whole.
func expectLine(t *testing.T, what string, l []api.Cell, call func(g *grid.Grid), want []api.Cell) {
	t.Helper()
	g := grid.New(len(l), 1)
	g.Lines[0] = slices.Clone(l)
	call(g)
	if g.W != len(l) || g.H != 1 || len(g.Lines) != 1 || !slices.Equal(g.Lines[0], want) || !cell.Whole(g.Lines[0]) {
		t.Fatalf("%s of %v: %v, want %v", what, l, g.Lines, want)
	}
}

func TestChangesOfAllShortLines(t *testing.T) {
	cells := []api.Cell{{Rune: 'z'}, {Rune: ' ', Style: red}, {Rune: '中'}, {Rune: '中', Style: red}, {Rune: '한', Style: loud}}
	eachLine(5, func(l []api.Cell) {
		w := len(l)
		for x := range w {
			for _, c := range cells {
				expectLine(t, "Put", l, func(g *grid.Grid) { g.Put(x, 0, c) }, modelOfPut(l, x, c))
			}
			for n := -1; n <= w+1; n++ {
				expectLine(t, "Open", l, func(g *grid.Grid) { g.Open(x, 0, n, loud) }, modelOfOpen(l, x, n, loud))
				expectLine(t, "Shut", l, func(g *grid.Grid) { g.Shut(x, 0, n, loud) }, modelOfShut(l, x, n, loud))
			}
		}
		for begin := -1; begin <= w+1; begin++ {
			for end := -1; end <= w+1; end++ {
				expectLine(t, "Clear", l, func(g *grid.Grid) { g.Clear(0, begin, end, loud) }, modelOfClear(l, begin, end, loud))
			}
		}
		for n := -1; n <= w+2; n++ {
			if got := grid.Fit(l, n); !slices.Equal(got, modelOfFit(l, n)) || !cell.Whole(got) {
				t.Fatalf("Fit of %v to %d: %v", l, n, got)
			}
		}
	})
}

// lettered: a grid each of whose lines is another one, with a wide rune at another place.
func lettered(w, h int) *grid.Grid {
	g := grid.New(w, h)
	for y := range h {
		for x := range w {
			g.Put(x, y, api.Cell{Rune: rune('a' + y), Style: red})
		}
		g.Put(y%max(w-1, 1), y, api.Cell{Rune: '한', Style: loud})
	}
	return g
}

// A model of which lines go out, and of what is in their places: each line told by its number.
func modelOfUp(g *grid.Grid, top, end, n int, s api.Style) (out, lines [][]api.Cell) {
	for y := range g.H {
		in := top <= y && y < end
		first := max(top, 0)
		switch {
		case !in || n <= 0:
			lines = append(lines, g.Lines[y])
		case y+n < min(end, g.H):
			lines = append(lines, g.Lines[y+n])
		default:
			lines = append(lines, slices.Repeat([]api.Cell{blankOf(s)}, g.W))
		}
		if in && y < first+n {
			out = append(out, g.Lines[y])
		}
	}
	return out, lines
}

func modelOfDown(g *grid.Grid, top, end, n int, s api.Style) (lines [][]api.Cell) {
	for y := range g.H {
		in := top <= y && y < end
		switch {
		case !in || n <= 0:
			lines = append(lines, g.Lines[y])
		case y-n >= max(top, 0):
			lines = append(lines, g.Lines[y-n])
		default:
			lines = append(lines, slices.Repeat([]api.Cell{blankOf(s)}, g.W))
		}
	}
	return lines
}

func TestUpAndDownOfAllParts(t *testing.T) {
	for h := 1; h <= 5; h++ {
		was := lettered(3, h)
		for top := -2; top <= h+1; top++ {
			for end := -2; end <= h+2; end++ {
				for n := -1; n <= h+2; n++ {
					g := was.Copy()
					out, lines := modelOfUp(was, top, end, n, loud)
					if got := g.Up(top, end, n, loud); !sameLines(got, out) || !sameLines(g.Lines, lines) || g.W != 3 || g.H != h {
						t.Fatalf("Up(%d, %d, %d) of %d lines: %v went out, there are %v", top, end, n, h, got, g.Lines)
					}
					g = was.Copy()
					lines = modelOfDown(was, top, end, n, loud)
					if g.Down(top, end, n, loud); !sameLines(g.Lines, lines) || g.W != 3 || g.H != h {
						t.Fatalf("Down(%d, %d, %d) of %d lines: there are %v", top, end, n, h, g.Lines)
					}
				}
			}
		}
	}
}

func modelOfResize(g *grid.Grid, w, h, away int) (out, lines [][]api.Cell) {
	away = max(away, 0)
	for y := range max(h, 1) {
		var l []api.Cell
		if y+away < g.H {
			l = g.Lines[y+away]
		}
		lines = append(lines, modelOfFit(l, max(w, 1)))
	}
	for y, l := range g.Lines {
		if y < away {
			out = append(out, l)
		}
	}
	return out, lines
}

func TestResizeOfAllSmallGrids(t *testing.T) {
	const most = 4
	for w := 1; w <= most; w++ {
		for h := 1; h <= most; h++ {
			was := lettered(w, h)
			for to := range (most + 3) * (most + 3) {
				for away := -1; away <= h+1; away++ {
					nextW, nextH := to%(most+3)-1, to/(most+3)-1
					g := was.Copy()
					out, lines := modelOfResize(was, nextW, nextH, away)
					if got := g.Resize(nextW, nextH, away); !sameLines(got, out) || !sameLines(g.Lines, lines) || g.W != max(nextW, 1) || g.H != max(nextH, 1) {
						t.Fatalf("Resize(%d, %d, %d) of %v: %v went out, there are %v", nextW, nextH, away, was.Lines, got, g.Lines)
					}
				}
			}
		}
	}
}

// dice tell numbers that look like chance, and are the same each time.
type dice uint64

func (r *dice) next(n int) int {
	*r = *r*6364136223846793005 + 1442695040888963407
	return int(uint64(*r) >> 33 % uint64(n))
}

// some: a number about 0 to 60 most of the time, and now and then one far outside.
func (r *dice) some() int {
	if l := far(); r.next(8) == 0 {
		return l[r.next(len(l))]
	}
	return r.next(66) - 3
}

func (r *dice) style() api.Style {
	return []api.Style{plain, red, loud, {Bold: true, Back: 8}}[r.next(4)]
}

// anyCall: one call of those that change a grid, and what goes out.
func anyCall(r *dice, g *grid.Grid) [][]api.Cell {
	a, b, n, s := r.some(), r.some(), r.some(), r.style()
	switch r.next(20) {
	case 0, 1, 2:
		g.Clear(a, b, n, s)
	case 3, 4, 5:
		g.Open(a, b, n, s)
	case 6, 7, 8:
		g.Shut(a, b, n, s)
	case 9:
		return g.Up(a, b, n, s)
	case 10:
		g.Down(a, b, n, s)
	case 11:
		return g.Resize(a, b, n)
	default:
		for range 50 {
			c := api.Cell{Rune: []rune{'a', '中', '한', ' ', 0x3040, 0x10FFFF, 0, -1, 7}[r.next(9)], Style: r.style()}
			g.Put(r.some(), r.some(), c)
		}
	}
	return nil
}

// expectSound: sides that may be, and whole lines of as many cells as there are columns.
func expectSound(t *testing.T, g *grid.Grid) {
	t.Helper()
	if g.W < 1 || g.W > api.MaxSide || g.H < 1 || g.H > api.MaxSide || len(g.Lines) != g.H {
		t.Fatalf("a grid of %d by %d, with %d lines", g.W, g.H, len(g.Lines))
	}
	for y, l := range g.Lines {
		if len(l) != g.W || !cell.Whole(l) {
			t.Fatalf("line %d of %d columns isn't whole, or as long: %v", y, g.W, l)
		}
	}
}

// rests: how many cells of a grid are second halves.
func rests(g *grid.Grid) (n int) {
	for _, l := range g.Lines {
		for _, c := range l {
			if c.Rune == 0 {
				n++
			}
		}
	}
	return n
}

// P9.2, and P0: whatever calls, each ends, all lines are whole, and the same calls have the same outcome.
func TestWhateverCalls(t *testing.T) {
	wide, gone := 0, 0
	for seed := range 200 {
		r, again := dice(seed), dice(seed)
		g, other := grid.New(r.some(), r.some()), grid.New(again.some(), again.some())
		for range 60 {
			width := g.W
			out := anyCall(&r, g)
			for _, l := range out {
				if len(l) != width || !cell.Whole(l) {
					t.Fatalf("of %d columns, there went out %v", width, l)
				}
			}
			expectSound(t, g)
			if more := anyCall(&again, other); !sameLines(out, more) || !grid.Same(g, other) {
				t.Fatal("the same calls have another outcome")
			}
			wide += rests(g)
			gone += len(out)
		}
	}
	if wide < 10000 || gone < 1000 {
		t.Errorf("only %d wide runes were seen, and %d lines went out", wide, gone)
	}
}
