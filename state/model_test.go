package state_test

import (
	"fmt"
	"slices"
	"strings"
	"testing"

	"flipbook/api"
	"flipbook/cell"
	"flipbook/grid"
	"flipbook/state"
	"flipbook/term"
	"flipbook/vt"
)

func sameLines(a, b [][]api.Cell) bool { return slices.EqualFunc(a, b, slices.Equal) }

func sameParser(a, b vt.Parser) bool {
	return a.State == b.State && a.Utf == b.Utf && a.Marks == b.Marks && slices.Equal(a.Params, b.Params) && a.Text == b.Text && a.Within == b.Within
}

// differ: the names of what two terminals don't have alike, told by their fields alone.
func differ(a, b *term.Term) (names []string) {
	for _, x := range []struct {
		name string
		same bool
	}{
		{"the screen", grid.Same(a.Grid, b.Grid)}, {"Other", grid.Same(a.Other, b.Other)},
		{"Cursor", a.Cursor == b.Cursor}, {"Saved", a.Saved == b.Saved}, {"Away", a.Away == b.Away},
		{"Top", a.Top == b.Top}, {"End", a.End == b.End}, {"Tabs", a.Tabs == b.Tabs},
		{"Wrap", a.Wrap == b.Wrap}, {"Origin", a.Origin == b.Origin}, {"Insert", a.Insert == b.Insert}, {"Hidden", a.Hidden == b.Hidden},
		{"Draw", a.Draw == b.Draw}, {"Shift", a.Shift == b.Shift}, {"Alt", a.Alt == b.Alt},
		{"Title", a.Title == b.Title}, {"Back", sameLines(a.Back, b.Back)}, {"Parser", sameParser(a.Parser, b.Parser)}, {"Reply", a.Reply == b.Reply},
	} {
		if !x.same {
			names = append(names, x.name)
		}
	}
	return names
}

func expectSame(t *testing.T, what string, got, want *term.Term) {
	t.Helper()
	if names := differ(got, want); len(names) > 0 {
		t.Fatalf("%s: not alike: %v\n%s\nwant\n%s", what, names, all(got), all(want))
	}
}

// all: what a terminal has, to be read where a test fails.
func all(x *term.Term) string {
	plain := *x
	plain.Grid, plain.Other = nil, nil
	return fmt.Sprintf("%v\nother %v\n%+v", x.Lines, x.Other.Lines, plain)
}

// A token is one number's or one text's bytes, or the bytes behind a text's length.
type token struct {
	bytes  string
	number bool
}

// tokens: a terminal's bytes by the chapter's words, one number or text behind the other.
func tokens(x *term.Term) (l []token) {
	flag := func(value int, on bool) int {
		if on {
			return value
		}
		return 0
	}
	numbers := func(ns ...int) {
		for _, n := range ns {
			l = append(l, token{number(n), true})
		}
	}
	text := func(s string) {
		numbers(len(s))
		l = append(l, token{s, false})
	}
	line := func(cells []api.Cell) {
		for from, to := 0, 0; from < len(cells); from = to {
			for to = from; to < len(cells) && cells[to] == cells[from]; to++ {
			}
			s := cells[from].Style
			numbers(to-from, int(cells[from].Rune), styleNumber(s))
		}
	}
	numbers(x.W, x.H, x.Top, x.End)
	numbers(flag(1, x.Wrap) + flag(2, x.Origin) + flag(4, x.Insert) + flag(8, x.Hidden) + flag(16, x.Alt) + flag(32, x.Draw[0]) + flag(64, x.Draw[1]) + flag(128, x.Shift))
	stops, value := 0, 1
	for _, stop := range x.Tabs {
		stops += flag(value, stop)
		value *= 2
	}
	numbers(stops)
	for _, c := range []api.Cursor{x.Cursor, x.Saved, x.Away} {
		numbers(c.X, c.Y, flag(1, c.Late), styleNumber(c.Style))
	}
	for _, cells := range slices.Concat(x.Lines, x.Other.Lines) {
		line(cells)
	}
	numbers(len(x.Back))
	for _, cells := range x.Back {
		numbers(len(cells))
		line(cells)
	}
	text(x.Title)
	text(x.Reply)
	p := x.Parser
	numbers(p.State, p.Within)
	text(string(p.Utf.Bytes[:p.Utf.N]))
	text(p.Marks)
	numbers(len(p.Params))
	numbers(p.Params...)
	text(p.Text)
	return l
}

// number: one's bytes; of one below 0, those of the number of 64 bits.
func number(n int) string {
	var b []byte
	for u := uint64(n); ; {
		piece := byte(u & 127)
		if u >>= 7; u == 0 {
			return string(append(b, piece))
		}
		b = append(b, piece|128)
	}
}

func styleNumber(s api.Style) int {
	n := s.Fore + 16*s.Back
	for _, x := range []struct {
		on    bool
		value int
	}{{s.Bold, 256}, {s.Under, 512}, {s.Turned, 1024}} {
		if x.on {
			n += x.value
		}
	}
	return n
}

func joined(l []token) string {
	var b strings.Builder
	for _, x := range l {
		b.WriteString(x.bytes)
	}
	return b.String()
}

func modelBytes(x *term.Term) string { return joined(tokens(x)) }

// A taking reads what modelBytes writes, and much else that is nearly so: it stops where there is nothing more to read, or a count is too high to go on with.
type taking struct {
	rest string
	end  bool
}

func (k *taking) number() int {
	n := uint64(0)
	for i := range len(k.rest) {
		if i > 9 {
			break
		}
		c := k.rest[i]
		n |= uint64(c&127) << (7 * i)
		if c < 128 {
			k.rest = k.rest[i+1:]
			return int(n)
		}
	}
	k.end, k.rest = true, ""
	return 0
}

// count: a number up to a limit.
func (k *taking) count(most int) int {
	n := k.number()
	if n < 0 || n > most {
		k.end, k.rest = true, ""
		return 0
	}
	return n
}

func (k *taking) text() string {
	n := k.count(len(k.rest))
	if n > len(k.rest) {
		k.end, k.rest = true, ""
		return ""
	}
	s := k.rest[:n]
	k.rest = k.rest[n:]
	return s
}

func (k *taking) style() api.Style {
	n := k.number()
	return api.Style{Fore: n % 16, Back: n / 16 % 16, Bold: n/256%2 == 1, Under: n/512%2 == 1, Turned: n/1024%2 == 1}
}

func (k *taking) cursor() (c api.Cursor) {
	c.X, c.Y = k.number(), k.number()
	c.Late = k.number() == 1
	c.Style = k.style()
	return c
}

func (k *taking) line(w int) (cells []api.Cell) {
	for len(cells) < w && !k.end {
		n, r, s := k.count(w), k.count(1<<31-1), k.style()
		cells = append(cells, slices.Repeat([]api.Cell{{Rune: rune(r), Style: s}}, n)...)
		k.end = k.end || n == 0
	}
	return cells
}

func (k *taking) lines(w, h int) *grid.Grid {
	g := &grid.Grid{W: w, H: h}
	for range h {
		g.Lines = append(g.Lines, k.line(w))
	}
	return g
}

// modelTerm: the terminal that may be whose bytes these are: one is read that may have other bytes, or may not be.
func modelTerm(b string) (*term.Term, bool) {
	k := &taking{rest: b}
	x := &term.Term{}
	w, h := k.count(1000), k.count(1000)
	x.Top, x.End = k.number(), k.number()
	modes, stops := k.number(), k.number()
	for i, on := range []*bool{&x.Wrap, &x.Origin, &x.Insert, &x.Hidden, &x.Alt, &x.Draw[0], &x.Draw[1], &x.Shift} {
		*on = modes&(1<<i) != 0
	}
	for i := range x.Tabs {
		x.Tabs[i] = stops&(1<<i) != 0
	}
	x.Cursor, x.Saved, x.Away = k.cursor(), k.cursor(), k.cursor()
	x.Grid, x.Other = k.lines(w, h), k.lines(w, h)
	for range k.count(1000) {
		x.Back = append(x.Back, k.line(k.count(1000)))
	}
	x.Title, x.Reply = k.text(), k.text()
	x.Parser.State, x.Parser.Within = k.number(), k.number()
	under := k.text()
	x.Parser.Utf.N = len(under)
	copy(x.Parser.Utf.Bytes[:], under)
	x.Parser.Marks = k.text()
	for range k.count(1000) {
		x.Parser.Params = append(x.Parser.Params, k.number())
	}
	x.Parser.Text = k.text()
	if k.end || why(x) != "" || modelBytes(x) != b {
		return nil, false
	}
	return x, true
}

// why: what of a terminal may not be; nothing, if it may be.
func why(x *term.Term) string {
	switch {
	case x.W < 1 || x.W > 60 || x.H < 1 || x.H > 60:
		return "sides"
	case x.Top < 0 || x.Top >= x.End || x.End > x.H:
		return "lines that go"
	case len(x.Back) > 20 || len(x.Title) > 40 || len(x.Reply) > 400:
		return "more than may be"
	case x.Parser.Utf.N > 3 || !x.Parser.Right():
		return "parser"
	}
	for _, c := range []api.Cursor{x.Cursor, x.Saved, x.Away} {
		if c.X < 0 || c.X >= x.W || c.Y < 0 || c.Y >= x.H || c.Late && c.X < x.W-1 || !cell.Style(c.Style) {
			return "cursor"
		}
	}
	for _, g := range []*grid.Grid{x.Grid, x.Other} {
		if g.W != x.W || g.H != x.H || len(g.Lines) != g.H {
			return "screen"
		}
		for _, l := range g.Lines {
			if len(l) != g.W || !cell.Whole(l) {
				return "line"
			}
		}
	}
	for _, l := range x.Back {
		if len(l) < 1 || len(l) > 60 || !cell.Whole(l) {
			return "line of Back"
		}
	}
	return ""
}

// expectBytes: a terminal has its bytes by the chapter's words, and comes back from them.
func expectBytes(t *testing.T, what string, x *term.Term) {
	t.Helper()
	if no := why(x); no != "" {
		t.Fatalf("%s: no terminal that may be: %s: %s", what, no, all(x))
	}
	b := state.Encode(x)
	if want := modelBytes(x); string(b) != want {
		t.Fatalf("%s: % x, want % x: %s", what, b, want, all(x))
	}
	y, e := state.Decode(b)
	if e != api.OK {
		t.Fatalf("%s: no terminal has % x", what, b)
	}
	expectSame(t, what, y, x)
	if !state.Same(x, y) {
		t.Fatalf("%s: what comes back isn't the Same", what)
	}
	expectSame(t, what+", a copy", state.Copy(x), x)
}

// expectModel: Decode of any bytes is what the chapter's words ask; was there a terminal?
func expectModel(t *testing.T, what string, b string) bool {
	t.Helper()
	given := []byte(b)
	x, e := state.Decode(given)
	if string(given) != b {
		t.Fatalf("%s: % x is % x behind Decode", what, b, given)
	}
	want, ok := modelTerm(b)
	if !ok {
		if e != api.ErrForm || x != nil {
			t.Fatalf("%s: % x: %v, error %d, want 1", what, b, x, e)
		}
		return false
	}
	if e != api.OK {
		t.Fatalf("%s: % x: error %d, want %s", what, b, e, all(want))
	}
	expectSame(t, what, x, want)
	if string(state.Encode(x)) != b {
		t.Fatalf("%s: % x: it has % x", what, b, state.Encode(x))
	}
	return true
}
