package cell_test

import (
	"math"
	"slices"
	"testing"

	"flipbook/api"
	"flipbook/cell"
)

// Cells and styles, as short as may be.
const wide = rune(0x4E2D)

var (
	plain = api.Style{}
	red   = api.Style{Fore: 2}
	every = api.Style{Bold: true, Under: true, Turned: true, Fore: 8, Back: 8}
)

func of(r rune, s api.Style) api.Cell         { return api.Cell{Rune: r, Style: s} }
func narrow(s api.Style) api.Cell             { return of('a', s) }
func first(s api.Style) api.Cell              { return of(wide, s) }
func rest(s api.Style) api.Cell               { return api.Cell{Style: s} }
func empty(s api.Style) api.Cell              { return of(' ', s) }
func line(l ...api.Cell) []api.Cell           { return l }
func times(n int, c api.Cell) []api.Cell      { return slices.Repeat(line(c), n) }
func joined(l ...[]api.Cell) []api.Cell       { return slices.Concat(l...) }
func coloured(fore, back int) api.Style       { return api.Style{Fore: fore, Back: back} }
func inColour(fore, back int) api.Cell        { return of('a', coloured(fore, back)) }
func sameLine(a, b []api.Cell) bool           { return slices.Equal(a, b) }
func withRest(r rune, s api.Style) []api.Cell { return line(of(r, s), rest(s)) }

// wrongStyles: those with a colour that is none.
func wrongStyles() (l []api.Style) {
	for _, n := range []int{math.MinInt, math.MinInt + 1, -256, -16, -9, -8, -1, 9, 10, 15, 16, 17, 256, 1 << 32, math.MaxInt - 1, math.MaxInt} {
		l = append(l, coloured(n, 0), coloured(0, n), coloured(n, 8), coloured(8, n), coloured(n, n), api.Style{Bold: true, Under: true, Turned: true, Fore: n})
	}
	return l
}

// wrongRunes: those that no cell with a rune has.
func wrongRunes() []rune {
	return []rune{math.MinInt32, -0x4E2D, -32, -1, 0, 1, 7, 10, 27, 31, 127, 0xD800, 0xDBFF, 0xDC00, 0xDFFF, 0x110000, 0x110001, 0x204E2D, math.MaxInt32}
}

// rightStyles: all that there are.
func rightStyles() (l []api.Style) {
	for i := range 8 {
		for fore := range 9 {
			for back := range 9 {
				l = append(l, api.Style{Bold: i&1 != 0, Under: i&2 != 0, Turned: i&4 != 0, Fore: fore, Back: back})
			}
		}
	}
	return l
}

func TestStyle(t *testing.T) {
	for _, x := range []struct {
		n    int
		want bool
	}{{math.MinInt, false}, {-9, false}, {-1, false}, {0, true}, {1, true}, {4, true}, {7, true}, {8, true}, {9, false}, {16, false}, {256, false}, {math.MaxInt, false}} {
		for _, other := range []int{0, 8} {
			if got := cell.Style(coloured(x.n, other)); got != x.want {
				t.Errorf("Fore %d, Back %d: %v", x.n, other, got)
			}
			if got := cell.Style(coloured(other, x.n)); got != x.want {
				t.Errorf("Fore %d, Back %d: %v", other, x.n, got)
			}
		}
	}
	for _, s := range rightStyles() {
		if !cell.Style(s) {
			t.Errorf("%v isn't right", s)
		}
	}
	for _, s := range wrongStyles() {
		if cell.Style(s) {
			t.Errorf("%v is right", s)
		}
	}
}

func TestRight(t *testing.T) {
	for _, r := range []rune{' ', 'a', '~', 128, 0xE9, wide, 0xD7FF, 0xE000, 0xFFFD, 0x1F600, 0x10FFFF} {
		for _, s := range []api.Style{plain, red, every} {
			if !cell.Right(of(r, s)) {
				t.Errorf("%X of %v isn't right", r, s)
			}
		}
		for _, s := range wrongStyles() {
			if cell.Right(of(r, s)) {
				t.Errorf("%X of %v is right", r, s)
			}
		}
	}
	for _, r := range wrongRunes() {
		for _, s := range append(wrongStyles(), plain, red, every) {
			if cell.Right(of(r, s)) {
				t.Errorf("%X of %v is right", r, s)
			}
		}
	}
}

func TestWholeLines(t *testing.T) {
	for name, l := range map[string][]api.Cell{
		"no cells":                      {},
		"a narrow rune":                 line(narrow(red)),
		"colours from 0 to 8":           line(inColour(0, 8), inColour(8, 0), narrow(every)),
		"a wide rune with its rest":     withRest(wide, plain),
		"of a style":                    withRest(wide, every),
		"one behind the other":          joined(withRest(wide, red), withRest(wide, red), withRest(0x1F600, plain)),
		"wide ones among narrow ones":   joined(times(2, narrow(plain)), withRest(wide, red), line(narrow(red)), withRest(wide, red)),
		"one ahead of a narrow one":     joined(withRest(wide, red), line(narrow(plain))),
		"the last rune that may be":     line(of(0x10FFFF, plain)),
		"the rune amid wide ones alone": line(of(0x303F, plain)),
	} {
		if !cell.Whole(l) {
			t.Errorf("%s: not whole", name)
		}
		if got := cell.Mend(l); !sameLine(got, l) {
			t.Errorf("%s: mended: %v", name, got)
		}
	}
	if !cell.Whole(nil) || len(cell.Mend(nil)) != 0 {
		t.Error("nil isn't whole")
	}
}

// Lines that aren't whole, and what they are when they are mended.
func TestBrokenLinesAndMended(t *testing.T) {
	for name, x := range map[string]struct{ l, want []api.Cell }{
		"a wide rune alone":                  {line(first(red)), line(empty(red))},
		"as the last cell":                   {line(narrow(plain), first(every)), line(narrow(plain), empty(every))},
		"ahead of a narrow one":              {line(first(red), narrow(plain)), line(empty(red), narrow(plain))},
		"ahead of a blank":                   {line(first(plain), empty(plain)), line(empty(plain), empty(plain))},
		"ahead of another, which has a rest": {line(first(red), first(red), rest(red)), line(empty(red), first(red), rest(red))},
		"ahead of the same, at the end":      {line(first(red), first(red)), line(empty(red), empty(red))},
		"with a rest of another style":       {line(first(red), rest(plain)), line(empty(red), empty(plain))},
		"of another Fore":                    {line(first(coloured(1, 1)), rest(coloured(2, 1))), line(empty(coloured(1, 1)), empty(coloured(2, 1)))},
		"of another Back":                    {line(first(coloured(1, 1)), rest(coloured(1, 2))), line(empty(coloured(1, 1)), empty(coloured(1, 2)))},
		"of one that is Bold":                {line(first(red), rest(api.Style{Bold: true, Fore: 2})), line(empty(red), empty(api.Style{Bold: true, Fore: 2}))},
		"of one that is Under":               {line(first(red), rest(api.Style{Under: true, Fore: 2})), line(empty(red), empty(api.Style{Under: true, Fore: 2}))},
		"of one that is Turned":              {line(first(red), rest(api.Style{Turned: true, Fore: 2})), line(empty(red), empty(api.Style{Turned: true, Fore: 2}))},
		"a rest alone":                       {line(rest(red)), line(empty(red))},
		"a rest first":                       {line(rest(every), narrow(red)), line(empty(every), narrow(red))},
		"a rest behind a narrow one":         {line(narrow(red), rest(red)), line(narrow(red), empty(red))},
		"a rest behind a blank":              {line(empty(plain), rest(plain)), line(empty(plain), empty(plain))},
		"a rest behind another":              {line(first(red), rest(red), rest(red)), line(first(red), rest(red), empty(red))},
		"rests alone":                        {times(3, rest(red)), times(3, empty(red))},
		"a rest ahead of the wide one":       {line(rest(red), first(red)), line(empty(red), empty(red))},
		"a second rest ahead of a wide one":  {line(first(red), rest(red), rest(red), first(red), rest(red)), line(first(red), rest(red), empty(red), first(red), rest(red))},
		"a rest one cell too late":           {line(first(red), narrow(red), rest(red)), line(empty(red), narrow(red), empty(red))},
		"a rest behind the rune amid them":   {line(of(0x303F, red), rest(red)), line(of(0x303F, red), empty(red))},
	} {
		was := slices.Clone(x.l)
		if cell.Whole(x.l) {
			t.Errorf("%s: whole", name)
		}
		if got := cell.Mend(x.l); !sameLine(got, x.want) {
			t.Errorf("%s: mended: %v, want %v", name, got, x.want)
		}
		if !sameLine(x.l, was) {
			t.Errorf("%s: the line that was handed in is %v", name, x.l)
		}
	}
}

// Lines with a cell that may not be aren't whole, wherever it stands.
func TestWholeOfWrongCells(t *testing.T) {
	var wrong []api.Cell
	for _, r := range wrongRunes() {
		wrong = append(wrong, of(r, red))
	}
	for _, s := range wrongStyles() {
		wrong = append(wrong, narrow(s), empty(s), rest(s))
	}
	for _, c := range wrong {
		for _, l := range [][]api.Cell{line(c), line(c, narrow(red)), line(narrow(red), c), line(narrow(c.Style), c), joined(withRest(wide, red), line(c))} {
			if cell.Whole(l) {
				t.Errorf("%v is whole", l)
			}
		}
	}
	for _, s := range wrongStyles() {
		if l := withRest(wide, s); cell.Whole(l) {
			t.Errorf("%v is whole", l)
		}
	}
}

func TestMendAnswersNewMemory(t *testing.T) {
	l := joined(withRest(wide, red), line(narrow(plain), first(plain)))
	was := slices.Clone(l)
	m := cell.Mend(l)
	mended := slices.Clone(m)
	clear(m)
	if !sameLine(l, was) {
		t.Error("what becomes of the answer becomes of what was handed in")
	}
	m = cell.Mend(l)
	clear(l)
	if !sameLine(m, mended) {
		t.Error("what becomes of what was handed in becomes of the answer")
	}
}

func TestBlank(t *testing.T) {
	for _, s := range append(rightStyles(), wrongStyles()...) {
		if got, want := cell.Blank(s), (api.Cell{Rune: 32, Style: api.Style{Back: s.Back}}); got != want {
			t.Errorf("Blank(%v): %v", s, got)
		}
	}
}
