package grid_test

import (
	"math"
	"slices"
	"testing"

	"flipbook/api"
	"flipbook/cell"
	"flipbook/grid"
)

// expectOut: the lines that went out are these, and each of them is whole.
func expectOut(t *testing.T, what string, got [][]api.Cell, want ...[]api.Cell) {
	t.Helper()
	if !sameLines(got, want) {
		t.Errorf("%s: there went out %v, want %v", what, got, want)
	}
	for _, l := range got {
		if !cell.Whole(l) {
			t.Errorf("%s: there went out a line that isn't whole: %v", what, l)
		}
	}
}

// texts: each line's one rune, of a grid of one column.
func texts(lines [][]api.Cell) (s string) {
	for _, l := range lines {
		s += string(l[0].Rune)
	}
	return s
}

func TestUp(t *testing.T) {
	for name, x := range map[string]struct {
		top, end, n int
		out, want   string
	}{
		"the first line":            {0, 5, 1, "a", "bcde "},
		"two":                       {0, 5, 2, "ab", "cde  "},
		"between":                   {1, 4, 1, "b", "acd e"},
		"two between":               {1, 4, 2, "bc", "ad  e"},
		"as many as there are":      {1, 4, 3, "bcd", "a   e"},
		"one more than there are":   {1, 4, 4, "bcd", "a   e"},
		"many more":                 {1, 4, math.MaxInt, "bcd", "a   e"},
		"all":                       {0, 5, 5, "abcde", "     "},
		"more than all":             {0, 5, 6, "abcde", "     "},
		"none":                      {0, 5, 0, "", "abcde"},
		"below 0":                   {0, 5, -1, "", "abcde"},
		"the least int":             {1, 4, math.MinInt, "", "abcde"},
		"a top below 0":             {-1, 3, 1, "a", "bc de"},
		"a top far below, an end":   {math.MinInt, 3, 2, "ab", "c  de"},
		"an end above":              {2, 6, 1, "c", "abde "},
		"an end far above":          {3, math.MaxInt, 1, "d", "abce "},
		"both outside":              {-1, 6, 1, "a", "bcde "},
		"both far outside":          {math.MinInt, math.MaxInt, math.MaxInt, "abcde", "     "},
		"one line":                  {2, 3, 1, "c", "ab de"},
		"the last line":             {4, 5, 1, "e", "abcd "},
		"a top at the end":          {3, 3, 1, "", "abcde"},
		"a top behind the end":      {4, 2, 1, "", "abcde"},
		"a top at H":                {5, 9, 1, "", "abcde"},
		"a top far behind":          {math.MaxInt, math.MaxInt, 1, "", "abcde"},
		"a top far behind the end":  {math.MaxInt, math.MinInt, math.MaxInt, "", "abcde"},
		"an end at 0":               {0, 0, 1, "", "abcde"},
		"an end below 0":            {0, -1, 1, "", "abcde"},
		"both far below":            {math.MinInt, math.MinInt + 1, 1, "", "abcde"},
		"an end far below, but top": {3, math.MinInt, 1, "", "abcde"},
	} {
		g := ofTexts(t, "a", "b", "c", "d", "e")
		out := g.Up(x.top, x.end, x.n, plain)
		if texts(out) != x.out || texts(g.Lines) != x.want || g.W != 1 || g.H != 5 {
			t.Errorf("%s: %q went out, there is %q; want %q, %q", name, texts(out), texts(g.Lines), x.out, x.want)
		}
	}
}

func TestDown(t *testing.T) {
	for name, x := range map[string]struct {
		top, end, n int
		want        string
	}{
		"the last line":             {0, 5, 1, " abcd"},
		"two":                       {0, 5, 2, "  abc"},
		"between":                   {1, 4, 1, "a bce"},
		"two between":               {1, 4, 2, "a  be"},
		"as many as there are":      {1, 4, 3, "a   e"},
		"one more than there are":   {1, 4, 4, "a   e"},
		"many more":                 {1, 4, math.MaxInt, "a   e"},
		"all":                       {0, 5, 5, "     "},
		"more than all":             {0, 5, 6, "     "},
		"none":                      {0, 5, 0, "abcde"},
		"below 0":                   {0, 5, -1, "abcde"},
		"the least int":             {1, 4, math.MinInt, "abcde"},
		"a top below 0":             {-1, 3, 1, " abde"},
		"a top far below, an end":   {math.MinInt, 3, 2, "  ade"},
		"an end above":              {2, 6, 1, "ab cd"},
		"an end far above":          {3, math.MaxInt, 1, "abc d"},
		"both outside":              {-1, 6, 1, " abcd"},
		"both far outside":          {math.MinInt, math.MaxInt, math.MaxInt, "     "},
		"one line":                  {2, 3, 1, "ab de"},
		"the first line alone":      {0, 1, 1, " bcde"},
		"a top at the end":          {3, 3, 1, "abcde"},
		"a top behind the end":      {4, 2, 1, "abcde"},
		"a top at H":                {5, 9, 1, "abcde"},
		"a top far behind":          {math.MaxInt, math.MaxInt, 1, "abcde"},
		"a top far behind the end":  {math.MaxInt, math.MinInt, math.MaxInt, "abcde"},
		"an end at 0":               {0, 0, 1, "abcde"},
		"an end below 0":            {0, -1, 1, "abcde"},
		"both far below":            {math.MinInt, math.MinInt + 1, 1, "abcde"},
		"an end far below, but top": {3, math.MinInt, 1, "abcde"},
	} {
		g := ofTexts(t, "a", "b", "c", "d", "e")
		g.Down(x.top, x.end, x.n, plain)
		if texts(g.Lines) != x.want || g.W != 1 || g.H != 5 {
			t.Errorf("%s: %q, want %q", name, texts(g.Lines), x.want)
		}
	}
}

// Whole lines with their styles go, and the blank ones have but the style's Back.
func TestUpAndDownOfStyles(t *testing.T) {
	a, b, c := row("a中<", red), row("中<b", loud), joined(row("c", plain), row("한<", red))
	g := of(t, a, b, c)
	expectOut(t, "Up", g.Up(0, 3, 1, loud), a)
	expect(t, "Up", g, b, c, row("   ", back))
	g.Down(0, 3, 2, red)
	expect(t, "Down", g, row("   ", plain), row("   ", plain), b)
	expectOut(t, "Up of all", g.Up(0, 3, 3, red), row("   ", plain), row("   ", plain), b)
	expect(t, "Up of all", g, row("   ", plain), row("   ", plain), row("   ", plain))
}

// The blank lines that come in have each memory of its own.
func TestBlankLinesOfTheirOwn(t *testing.T) {
	for name, call := range map[string]func(g *grid.Grid){
		"Up":     func(g *grid.Grid) { g.Up(0, 3, 3, plain) },
		"Down":   func(g *grid.Grid) { g.Down(0, 3, 3, plain) },
		"Resize": func(g *grid.Grid) { g.Resize(2, 3, 3) },
	} {
		g := ofTexts(t, "ab", "cd", "ef")
		call(g)
		g.Put(1, 1, api.Cell{Rune: 'z'})
		_ = append(g.Lines[0], row("yy", red)...)
		expectTexts(t, name, g, "  ", " z", "  ")
	}
}

// goings: calls by which lines of a grid of 3 by 4 go out.
func goings() map[string]func(g *grid.Grid) [][]api.Cell {
	return map[string]func(g *grid.Grid) [][]api.Cell{
		"Up":             func(g *grid.Grid) [][]api.Cell { return g.Up(0, 4, 2, red) },
		"Up of none":     func(g *grid.Grid) [][]api.Cell { return g.Up(0, 4, 0, red) },
		"Up of all":      func(g *grid.Grid) [][]api.Cell { return g.Up(0, 4, 4, red) },
		"Up between":     func(g *grid.Grid) [][]api.Cell { return g.Up(1, 3, 1, red) },
		"Resize":         func(g *grid.Grid) [][]api.Cell { return g.Resize(3, 4, 2) },
		"Resize of none": func(g *grid.Grid) [][]api.Cell { return g.Resize(3, 4, 0) },
		"Resize of all":  func(g *grid.Grid) [][]api.Cell { return g.Resize(3, 4, 4) },
		"Resize to more": func(g *grid.Grid) [][]api.Cell { return g.Resize(5, 6, 1) },
		"Resize to less": func(g *grid.Grid) [][]api.Cell { return g.Resize(2, 2, 1) },
	}
}

// Lines that went out may be changed and appended to, and so may the list of them: the grid stays as it was.
func TestLinesThatWentOutLeaveTheGrid(t *testing.T) {
	for name, call := range goings() {
		g := ofTexts(t, "a中<", "bcd", "中<e", "fgh")
		out := call(g)
		is := g.Copy()
		_ = append(out, row("uuu", red), row("ttt", red))
		// What its reader gets at by the list's room, beyond the list's end, is nothing of the grid's either.
		for _, l := range out[:cap(out)] {
			_ = append(l, row("vvv", red)...)
			for x := range l {
				l[x] = api.Cell{Rune: 'w'}
			}
		}
		clear(out[:cap(out)])
		if !grid.Same(g, is) {
			t.Errorf("%s: the grid is %v, and was %v", name, g.Lines, is.Lines)
		}
	}
}

// What becomes of the grid later leaves the lines that went out as they were.
func TestTheGridLeavesLinesThatWentOut(t *testing.T) {
	for name, call := range goings() {
		g := ofTexts(t, "a中<", "bcd", "中<e", "fgh")
		out := call(g)
		was := copied(out)
		for y := range g.H {
			g.Put(0, y, api.Cell{Rune: 'z'})
			g.Open(1, y, 1, red)
			g.Lines[y][0].Rune = 'y'
			_ = append(g.Lines[y], row("xxx", red)...)
		}
		g.Up(0, g.H, 1, loud)
		g.Down(0, g.H, 2, loud)
		g.Resize(7, 7, 1)
		if !sameLines(out, was) {
			t.Errorf("%s: those that went out are %v, and were %v", name, out, was)
		}
	}
}

func TestResize(t *testing.T) {
	for name, x := range map[string]struct {
		w, h, away int
		out, want  []string
	}{
		"as it is":                         {4, 3, 0, nil, []string{"a中<b", "cd한<", "efgh"}},
		"fewer columns":                    {2, 3, 0, nil, []string{"a ", "cd", "ef"}},
		"fewer, amid the other wide one":   {3, 3, 0, nil, []string{"a中<", "cd ", "efg"}},
		"more columns":                     {6, 3, 0, nil, []string{"a中<b  ", "cd한<  ", "efgh  "}},
		"fewer lines":                      {4, 2, 0, nil, []string{"a中<b", "cd한<"}},
		"more lines":                       {4, 5, 0, nil, []string{"a中<b", "cd한<", "efgh", "    ", "    "}},
		"fewer columns, more lines":        {1, 4, 0, nil, []string{"a", "c", "e", " "}},
		"more columns, fewer lines":        {5, 1, 0, nil, []string{"a中<b "}},
		"one away":                         {4, 3, 1, []string{"a中<b"}, []string{"cd한<", "efgh", "    "}},
		"one away, fewer lines":            {4, 2, 1, []string{"a中<b"}, []string{"cd한<", "efgh"}},
		"one away, one line":               {4, 1, 1, []string{"a中<b"}, []string{"cd한<"}},
		"one away, more lines":             {4, 4, 1, []string{"a中<b"}, []string{"cd한<", "efgh", "    ", "    "}},
		"two away, fewer columns":          {3, 2, 2, []string{"a中<b", "cd한<"}, []string{"efg", "   "}},
		"as many as there are away":        {2, 2, 3, []string{"a中<b", "cd한<", "efgh"}, []string{"  ", "  "}},
		"one more than there are away":     {4, 3, 4, []string{"a中<b", "cd한<", "efgh"}, []string{"    ", "    ", "    "}},
		"the greatest int away":            {5, 4, math.MaxInt, []string{"a中<b", "cd한<", "efgh"}, []string{"     ", "     ", "     ", "     "}},
		"below 0 away":                     {4, 2, -1, nil, []string{"a中<b", "cd한<"}},
		"the least int away":               {2, 4, math.MinInt, nil, []string{"a ", "cd", "ef", "  "}},
		"sides of 0":                       {0, 0, 0, nil, []string{"a"}},
		"sides of 1":                       {1, 1, 2, []string{"a中<b", "cd한<"}, []string{"e"}},
		"sides below 0":                    {-1, -1, 1, []string{"a中<b"}, []string{"c"}},
		"the least ints":                   {math.MinInt, math.MinInt, math.MinInt, nil, []string{"a"}},
		"no columns, and more lines":       {0, 4, 0, nil, []string{"a", "c", "e", " "}},
		"no lines, and more columns":       {5, -7, 0, nil, []string{"a中<b "}},
		"fewer lines than stay, all blank": {4, 1, 3, []string{"a中<b", "cd한<", "efgh"}, []string{"    "}},
	} {
		g := ofTexts(t, "a中<b", "cd한<", "efgh")
		var out [][]api.Cell
		for _, s := range x.out {
			out = append(out, row(s, plain))
		}
		expectOut(t, name, g.Resize(x.w, x.h, x.away), out...)
		expectTexts(t, name, g, x.want...)
	}
}

// Sides are brought to what may be, up to 60 too.
func TestResizeToTheGreatest(t *testing.T) {
	for _, x := range []struct{ n, want int }{{59, 59}, {60, 60}, {61, 60}, {1000, 60}, {math.MaxInt, 60}} {
		g := of(t, row("a中<", red))
		expectOut(t, "columns", g.Resize(x.n, 1, 0))
		expect(t, "columns", g, joined(row("a中<", red), slices.Repeat(row(" ", plain), x.want-3)))
		g = of(t, row("a中<", red))
		expectOut(t, "lines", g.Resize(3, x.n, 0))
		expect(t, "lines", g, slices.Insert(slices.Repeat([][]api.Cell{row("   ", plain)}, x.want-1), 0, row("a中<", red))...)
	}
	g := grid.New(60, 60)
	g.Put(58, 59, api.Cell{Rune: '한', Style: loud})
	if out := g.Resize(61, 61, 0); len(out) != 0 || g.W != 60 || g.H != 60 || g.At(58, 59).Rune != '한' {
		t.Errorf("of the greatest: %d lines went out, it is %d by %d", len(out), g.W, g.H)
	}
	if out := g.Resize(59, 1, 59); len(out) != 59 || g.W != 59 || g.H != 1 || g.At(58, 0) != (api.Cell{Rune: ' ', Style: loud}) {
		t.Errorf("of the greatest: %d lines went out, it is %d by %d, %v", len(out), g.W, g.H, g.At(58, 0))
	}
}

// What comes in is of the zero style, whatever styles there are, and those that go out have all their cells.
func TestResizeOfStyles(t *testing.T) {
	a, b := row("a中<", red), joined(row("中<", red), row("b", loud))
	g := of(t, a, b, row("   ", loud))
	expectOut(t, "Resize", g.Resize(1, 2, 1), a)
	expect(t, "Resize", g, row(" ", red), row(" ", loud))
	expectOut(t, "Resize", g.Resize(2, 3, 0))
	expect(t, "Resize", g, joined(row(" ", red), row(" ", plain)), joined(row(" ", loud), row(" ", plain)), row("  ", plain))
}
