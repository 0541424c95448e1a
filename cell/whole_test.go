package cell_test

import (
	"bytes"
	"slices"
	"testing"

	"flipbook/api"
	"flipbook/cell"
	"flipbook/vary"
)

// eachLine: all lines of up to most cells out of some.
func eachLine(some []api.Cell, most int, f func(l []api.Cell)) {
	var grow func(l []api.Cell)
	grow = func(l []api.Cell) {
		f(l)
		if len(l) == most {
			return
		}
		for _, c := range some {
			grow(append(slices.Clip(l), c))
		}
	}
	grow(nil)
}

// kinds: each kind of cell of two styles.
func kinds() []api.Cell {
	return line(narrow(plain), empty(plain), first(plain), rest(plain), narrow(red), first(red), rest(red))
}

// A model of whole: the line is read from its beginning on, a wide rune with its rest at once.
func readsThrough(l []api.Cell) bool {
	for len(l) > 0 {
		n := 1
		if l[0].Rune == wide {
			n = 2
		}
		if l[0].Rune == 0 || n > len(l) || n == 2 && l[1] != (api.Cell{Style: l[0].Style}) {
			return false
		}
		l = l[n:]
	}
	return true
}

// A model of Mend: what reads through stays, and each half that doesn't is a blank.
func mendedByReading(l []api.Cell) (out []api.Cell) {
	for len(l) > 0 {
		switch {
		case len(l) > 1 && l[0].Rune == wide && readsThrough(l[:2]):
			out = append(out, l[0], l[1])
			l = l[1:]
		case readsThrough(l[:1]):
			out = append(out, l[0])
		default:
			out = append(out, empty(l[0].Style))
		}
		l = l[1:]
	}
	return out
}

func TestMendOfAllShortLines(t *testing.T) {
	eachLine(kinds(), 5, func(l []api.Cell) {
		whole := readsThrough(l)
		if cell.Whole(l) != whole {
			t.Fatalf("%v: whole: %v", l, !whole)
		}
		m := cell.Mend(l)
		if len(m) != len(l) || !cell.Whole(m) || whole && !sameLine(m, l) {
			t.Fatalf("%v is mended as %v", l, m)
		}
		if want := mendedByReading(l); !sameLine(m, want) {
			t.Fatalf("%v is mended as %v, want %v", l, m, want)
		}
	})
}

// A model of a line's bytes: the runs are parted where a cell isn't the one ahead of it.
func bytesByParting(l []api.Cell) (b []byte) {
	begin := 0
	for i := range l {
		if i+1 < len(l) && l[i+1] == l[i] {
			continue
		}
		b = append(vary.Put(b, uint64(i+1-begin), uint64(l[i].Rune)), byte(l[i].Style.Fore))
		begin = i + 1
	}
	return b
}

func TestAllShortLinesComeBack(t *testing.T) {
	seen := map[string]int{}
	eachLine(kinds(), 5, func(l []api.Cell) {
		b := cell.PutLine(nil, l)
		if !cell.Whole(l) {
			noLine(t, "not whole", b, len(l))
			return
		}
		if want := bytesByParting(l); !bytes.Equal(b, want) {
			t.Fatalf("%v: % X, want % X", l, b, want)
		}
		seen[string(b)]++
		if seen[string(b)] > 1 {
			t.Fatalf("%v has the bytes of another line: % X", l, b)
		}
		r := vary.Of(append(slices.Clip(b), 7))
		if got, ok := cell.TakeLine(r, len(l)); !ok || !sameLine(got, l) || r.Num(8) != 7 || !r.Done() {
			t.Fatalf("%v comes back as %v, %v", l, got, ok)
		}
	})
}

// Whatever bytes: there is the line whose bytes they begin with, and no other is read.
func TestTakeLineOfAnyBytes(t *testing.T) {
	some := []byte{0, 1, 2, 3, ' ', 0x80, 0x22, 0xFF}
	lines := 0
	for n := range 1 << 21 {
		b := make([]byte, 7)
		for i := range b {
			b[i] = some[n>>(3*i)&7]
		}
		w := 1 + n%3
		r := vary.Of(b)
		l, ok := cell.TakeLine(r, w)
		if !ok {
			if len(l) != 0 {
				t.Fatalf("% X, of %d cells: %v, and there is none", b, w, l)
			}
			continue
		}
		lines++
		if own := cell.PutLine(nil, l); len(l) != w || !cell.Whole(l) || !bytes.HasPrefix(b, own) {
			t.Fatalf("% X, of %d cells: %v, whose bytes are % X", b, w, l, own)
		}
	}
	if lines < 1000 {
		t.Errorf("only %d lines were read", lines)
	}
}

// P0: of lines that aren't whole, and of cells that may not be, nothing is said, but each call ends.
func TestLinesOfWrongCells(t *testing.T) {
	var some []api.Cell
	for _, r := range wrongRunes() {
		some = append(some, of(r, plain))
	}
	for _, s := range wrongStyles() {
		some = append(some, narrow(s), first(s), rest(s))
	}
	for _, a := range some {
		for _, c := range some {
			l := line(a, c, a, a)
			cell.Whole(l)
			if m := cell.Mend(l); len(m) != len(l) {
				t.Errorf("%v is mended as %v", l, m)
			}
			if b := cell.PutLine([]byte{1}, l); len(b) == 0 || b[0] != 1 {
				t.Errorf("%v: % X", l, b)
			}
			if !sameLine(l, line(a, c, a, a)) {
				t.Errorf("the line that was handed in is %v", l)
			}
		}
	}
}
