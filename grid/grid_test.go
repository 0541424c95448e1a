package grid_test

import (
	"math"
	"slices"
	"testing"

	"flipbook/api"
	"flipbook/cell"
	"flipbook/grid"
)

var (
	plain = api.Style{}
	red   = api.Style{Fore: 2}
	loud  = api.Style{Bold: true, Under: true, Turned: true, Fore: 3, Back: 6}
	back  = api.Style{Back: 6} // all that a blank of loud has
)

// row: cells of a style, one for each rune of a text: < is a rest, and each wide rune has to have one.
func row(text string, s api.Style) (l []api.Cell) {
	for _, r := range text {
		if r == '<' {
			r = 0
		}
		l = append(l, api.Cell{Rune: r, Style: s})
	}
	return l
}

func joined(l ...[]api.Cell) []api.Cell { return slices.Concat(l...) }
func copied(l [][]api.Cell) [][]api.Cell {
	var out [][]api.Cell
	for _, x := range l {
		out = append(out, slices.Clone(x))
	}
	return out
}
func sameLines(a, b [][]api.Cell) bool { return slices.EqualFunc(a, b, slices.Equal) }

// of: a grid of whole lines, all as long, each cell put there.
func of(t *testing.T, lines ...[]api.Cell) *grid.Grid {
	t.Helper()
	g := grid.New(len(lines[0]), len(lines))
	for y, l := range lines {
		for x, c := range l {
			g.Put(x, y, c)
		}
	}
	if !sameLines(g.Lines, lines) {
		t.Fatalf("the cells that were put there are %v, want %v", g.Lines, lines)
	}
	return g
}

// ofTexts: one of plain cells.
func ofTexts(t *testing.T, texts ...string) *grid.Grid {
	t.Helper()
	var lines [][]api.Cell
	for _, s := range texts {
		lines = append(lines, row(s, plain))
	}
	return of(t, lines...)
}

// expect: the grid has just these lines, all of them whole.
func expect(t *testing.T, what string, g *grid.Grid, lines ...[]api.Cell) {
	t.Helper()
	if g.W != len(lines[0]) || g.H != len(lines) || !sameLines(g.Lines, lines) {
		t.Errorf("%s: %d by %d, %v; want %v", what, g.W, g.H, g.Lines, lines)
		return
	}
	for y, l := range g.Lines {
		if !cell.Whole(l) {
			t.Errorf("%s: line %d isn't whole: %v", what, y, l)
		}
		for x, c := range l {
			if g.At(x, y) != c {
				t.Errorf("%s: At(%d, %d) is %v, want %v", what, x, y, g.At(x, y), c)
			}
		}
	}
}

func expectTexts(t *testing.T, what string, g *grid.Grid, texts ...string) {
	t.Helper()
	var lines [][]api.Cell
	for _, s := range texts {
		lines = append(lines, row(s, plain))
	}
	expect(t, what, g, lines...)
}

// far: numbers far outside of any grid.
func far() []int {
	return []int{math.MinInt, math.MinInt + 1, math.MinInt32, -1000, 1000, math.MaxInt32, math.MaxInt - 1, math.MaxInt}
}

func TestNew(t *testing.T) {
	for _, x := range []struct{ n, want int }{{math.MinInt, 1}, {-60, 1}, {-1, 1}, {0, 1}, {1, 1}, {2, 2}, {59, 59}, {60, 60}, {61, 60}, {1000, 60}, {math.MaxInt, 60}} {
		for _, other := range []int{1, 7} {
			blank := slices.Repeat(row(" ", plain), x.want)
			expect(t, "columns", grid.New(x.n, other), slices.Repeat([][]api.Cell{blank}, other)...)
			blank = slices.Repeat(row(" ", plain), other)
			expect(t, "lines", grid.New(other, x.n), slices.Repeat([][]api.Cell{blank}, x.want)...)
		}
	}
}

// No two lines share memory, nor do two grids.
func TestLinesOfTheirOwn(t *testing.T) {
	g, other := grid.New(3, 3), grid.New(3, 3)
	g.Put(1, 1, api.Cell{Rune: 'a'})
	expectTexts(t, "a cell is put there", g, "   ", " a ", "   ")
	expectTexts(t, "another grid", other, "   ", "   ", "   ")
	for _, l := range g.Lines {
		_ = append(l, row("zzz", red)...)
	}
	expectTexts(t, "lines were appended to", g, "   ", " a ", "   ")
}

func TestSame(t *testing.T) {
	g := ofTexts(t, "a中<", "bcd")
	if !grid.Same(g, g) || !grid.Same(g, ofTexts(t, "a中<", "bcd")) {
		t.Error("they are the same")
	}
	for name, other := range map[string]*grid.Grid{
		"a rune":                       ofTexts(t, "a中<", "bce"),
		"a wide rune":                  ofTexts(t, "a中<", "b中<"),
		"blanks":                       ofTexts(t, "a  ", "bcd"),
		"the lines' order":             ofTexts(t, "bcd", "a中<"),
		"fewer lines":                  ofTexts(t, "a中<"),
		"more lines":                   ofTexts(t, "a中<", "bcd", "   "),
		"fewer columns":                ofTexts(t, "a ", "bc"),
		"more columns":                 ofTexts(t, "a中< ", "bcd "),
		"a style":                      of(t, row("a中<", plain), joined(row("bc", plain), row("d", red))),
		"a wide rune's style":          of(t, joined(row("a", plain), row("中<", red)), row("bcd", plain)),
		"columns and lines, exchanged": grid.New(2, 3),
	} {
		if grid.Same(g, other) || grid.Same(other, g) {
			t.Errorf("%s: they aren't the same", name)
		}
	}
	if grid.Same(grid.New(2, 3), grid.New(3, 2)) || !grid.Same(grid.New(2, 3), grid.New(2, 3)) {
		t.Error("blank ones are the same, if their sides are")
	}
}

// A copy that is changed leaves the grid as it was, and the other way round.
func TestCopy(t *testing.T) {
	changes := map[string]func(g *grid.Grid){
		"Put":            func(g *grid.Grid) { g.Put(0, 0, api.Cell{Rune: 'z'}) },
		"Clear":          func(g *grid.Grid) { g.Clear(1, 0, 3, red) },
		"Up":             func(g *grid.Grid) { g.Up(0, 3, 1, red) },
		"Down":           func(g *grid.Grid) { g.Down(0, 3, 1, red) },
		"Open":           func(g *grid.Grid) { g.Open(0, 0, 1, red) },
		"Shut":           func(g *grid.Grid) { g.Shut(0, 0, 1, red) },
		"Resize":         func(g *grid.Grid) { g.Resize(2, 2, 1) },
		"a cell":         func(g *grid.Grid) { g.Lines[2][0].Rune = 'z' },
		"a line":         func(g *grid.Grid) { g.Lines[0] = row("zzz", red) },
		"a line's room":  func(g *grid.Grid) { _ = append(g.Lines[0], row("zzz", red)...) },
		"the list":       func(g *grid.Grid) { _ = append(g.Lines, row("zzz", red)) },
		"the list's end": func(g *grid.Grid) { _ = append(g.Lines[:1], row("zzz", red)) },
	}
	for name, change := range changes {
		g := ofTexts(t, "a中<", "bcd", "中<e")
		c := g.Copy()
		if c == g || !grid.Same(c, g) {
			t.Fatalf("the copy is %v", c)
		}
		change(c)
		expectTexts(t, name+": the copy is changed", g, "a中<", "bcd", "中<e")
		c = g.Copy()
		change(g)
		expectTexts(t, name+": the grid is changed", c, "a中<", "bcd", "中<e")
	}
}

func TestAtOfNoPlace(t *testing.T) {
	g := of(t, row("ab", red), row("cd", red), row("中<", loud))
	for _, x := range append(far(), -2, -1, 2, 3) {
		for y := range 3 {
			if c := g.At(x, y); c != (api.Cell{}) {
				t.Errorf("At(%d, %d): %v", x, y, c)
			}
		}
	}
	for _, y := range append(far(), -2, -1, 3, 4) {
		for x := range 2 {
			if c := g.At(x, y); c != (api.Cell{}) {
				t.Errorf("At(%d, %d): %v", x, y, c)
			}
		}
	}
	for _, n := range far() {
		if c := g.At(n, n); c != (api.Cell{}) {
			t.Errorf("At(%d, %d): %v", n, n, c)
		}
	}
}

func TestText(t *testing.T) {
	for name, x := range map[string]struct {
		l    []api.Cell
		want string
	}{
		"blanks alone":             {row("    ", plain), ""},
		"blanks of a style":        {row("    ", loud), ""},
		"all columns":              {row("abcd", plain), "abcd"},
		"blanks at the end":        {row("ab  ", plain), "ab"},
		"blanks of unlike styles":  {joined(row("ab", red), row(" ", loud), row(" ", plain)), "ab"},
		"blanks at the beginning":  {row("  ab", red), "  ab"},
		"blanks between":           {row("a  b", plain), "a  b"},
		"a wide rune":              {row("a中<b", plain), "a中b"},
		"a wide rune at the end":   {row("ab中<", red), "ab中"},
		"a wide rune, and a blank": {row(" 中< ", plain), " 中"},
		"wide runes alone":         {row("中<한<", loud), "中한"},
		"other white runes":        {row("a\u00A0\u2003\u0085", plain), "a\u00A0\u2003\u0085"},
		"a wide white rune":        {row("ab\u3000<", plain), "ab\u3000"},
		"the greatest rune":        {row("a\U0010FFFF  ", plain), "a\U0010FFFF"},
	} {
		g := of(t, row("zzzz", plain), x.l, row("yyyy", plain))
		if s := g.Text(1); s != x.want {
			t.Errorf("%s: %q, want %q", name, s, x.want)
		}
		expect(t, name, g, row("zzzz", plain), x.l, row("yyyy", plain))
	}
	g := ofTexts(t, "abcd", "efgh")
	for _, y := range append(far(), -2, -1, 2, 3) {
		if s := g.Text(y); s != "" {
			t.Errorf("line %d: %q", y, s)
		}
	}
}

func TestFit(t *testing.T) {
	l := joined(row("a中<", plain), row("한<", red), row("b", loud))
	for name, x := range map[string]struct {
		w    int
		want []api.Cell
	}{
		"the least int":             {math.MinInt, nil},
		"below 0":                   {-1, nil},
		"none":                      {0, nil},
		"one":                       {1, row("a", plain)},
		"amid a wide rune":          {2, row("a ", plain)},
		"behind a wide rune":        {3, row("a中<", plain)},
		"amid one with a style":     {4, joined(row("a中<", plain), row(" ", red))},
		"behind one with a style":   {5, joined(row("a中<", plain), row("한<", red))},
		"as many":                   {6, l},
		"one more":                  {7, joined(l, row(" ", plain))},
		"three more":                {9, joined(l, row("   ", plain))},
		"more than a screen has":    {1000, joined(l, slices.Repeat(row(" ", plain), 994))},
		"more than there may be":    {math.MaxInt, nil},
		"one less than these":       {math.MaxInt - 1, nil},
		"more than an answer has":   {1 << 40, nil},
		"one more than it may have": {1 << 31, nil},
	} {
		was := slices.Clone(l)
		got := grid.Fit(l, x.w)
		if !slices.Equal(got, x.want) {
			t.Errorf("%s: %v, want %v", name, got, x.want)
		}
		for i := range got {
			got[i].Rune = 'z'
		}
		_ = append(got, row("zzz", red)...)
		if !slices.Equal(l, was) {
			t.Errorf("%s: the line that was handed in is %v", name, l)
		}
	}
	for _, none := range [][]api.Cell{nil, {}} {
		if got := grid.Fit(none, 3); !slices.Equal(got, row("   ", plain)) {
			t.Errorf("a line of no cells: %v", got)
		}
		if got := grid.Fit(none, 0); len(got) != 0 {
			t.Errorf("a line of no cells, of none: %v", got)
		}
	}
}

// The spare room behind a line that is handed in, and what is cut off of it, isn't written to, and the line isn't kept.
func TestFitKeepsNothing(t *testing.T) {
	all := row("a中<def", red)
	for w := range 9 {
		for n := range len(all) {
			if n == 2 { // such a line isn't whole
				continue
			}
			l := slices.Clone(all)
			got := grid.Fit(l[:n], w)
			if !slices.Equal(l, all) {
				t.Fatalf("%d of %d cells: the line and what is behind it are %v", w, n, l)
			}
			was := slices.Clone(got)
			clear(l)
			if !slices.Equal(got, was) {
				t.Fatalf("%d of %d cells: the answer is changed by the line: %v", w, n, got)
			}
		}
	}
}
