package utf_test

import (
	"fmt"
	"math/rand"
	"slices"
	"testing"

	"flipbook/utf"
)

// A shape is that of all runes of so many bytes: the first byte's fixed bits, and the least and the greatest of them.
type shape struct {
	bits, mask      byte
	least, greatest int
}

var shapes = []shape{
	{0x00, 0x80, 0, 0x7F},
	{0xC0, 0xE0, 0x80, 0x7FF},
	{0xE0, 0xF0, 0x800, 0xFFFF},
	{0xF0, 0xF8, 0x10000, 0x10FFFF},
}

// first: the least rune whose bytes begin so, and how many bytes it has; 0, if no rune's begin so.
func first(b string) (least, size int) {
	i := slices.IndexFunc(shapes, func(x shape) bool { return b[0]&x.mask == x.bits })
	if i < 0 || len(b) > i+1 {
		return 0, 0
	}
	n := int(b[0] &^ shapes[i].mask)
	for _, c := range []byte(b[1:]) {
		if c/64 != 2 {
			return 0, 0
		}
		n = n*64 + int(c%64)
	}
	from, to := n, n+1
	for range i + 1 - len(b) {
		from, to = from*64, to*64
	}
	from, to = max(from, shapes[i].least), min(to-1, shapes[i].greatest)
	if from > to || (from >= 0xD800 && to <= 0xDFFF) {
		return 0, 0
	}
	return from, i + 1
}

// head: the first rune of some bytes and how many of them it takes; 0, if they begin one that isn't whole.
func head(b string) (rune, int) {
	for n := 1; n <= len(b); n++ {
		least, size := first(b[:n])
		if size == 0 {
			return wrong, 1
		}
		if size == n {
			return rune(least), n
		}
	}
	return 0, 0
}

// taken: what bytes tell, and which of them are left, by the chapter's words and without the library's.
func taken(b string) (told []rune, left string) {
	for b != "" {
		r, n := head(b)
		if n == 0 {
			break
		}
		told = append(told, r)
		b = b[n:]
	}
	return told, b
}

// differs: where a row of bytes, fed one by one, tells otherwise than the words do; empty, if nowhere.
func differs(s string) string {
	d, under := utf.Decoder{}, ""
	var all []rune
	for i := range len(s) {
		want, left := taken(under + s[i:i+1])
		var told []rune
		d, told = d.Feed(s[i])
		if !slices.Equal(told, want) || d != of(left) || !d.Right() {
			return fmt.Sprintf("%q, byte %d: %U, %v (%v), want %U, %q", s, i, told, d, d.Right(), want, left)
		}
		all, under = append(all, told...), left
	}
	none, told := d.Flush()
	if none != (utf.Decoder{}) || len(told) != len(under) || slices.ContainsFunc(told, func(r rune) bool { return r != wrong }) {
		return fmt.Sprintf("%q, flush: %U, %v", s, told, none)
	}
	all = append(all, told...)
	if l := utf.All(s); !slices.Equal(l, all) || !slices.Equal(l, ranged(s)) {
		return fmt.Sprintf("%q, all: %U, want %U, and %U by range", s, l, all, ranged(s))
	}
	return ""
}

// All rows of up to four bytes of these: the edges of what bytes may be.
func TestShortRowsOfBytes(t *testing.T) {
	bytes := "\x00A\x7F\x80\x8F\x90\x9F\xA0\xBF\xC0\xC1\xC2\xDF\xE0\xE1\xEC\xED\xEE\xEF\xF0\xF1\xF3\xF4\xF5\xF8\xFF"
	row := make([]byte, 4)
	var rows func(n int)
	rows = func(n int) {
		if d := differs(string(row[:n])); d != "" {
			t.Fatal(d)
		}
		if n == len(row) {
			return
		}
		for i := range len(bytes) {
			row[n] = bytes[i]
			rows(n + 1)
		}
	}
	rows(0)
}

// Every rune that may be is told by its own bytes as itself.
func TestEveryRune(t *testing.T) {
	for r := rune(0); r <= 0x10FFFF; r++ {
		if r == 0xD800 {
			r = 0xE000
		}
		s := string(r)
		d, told := fed(utf.Decoder{}, s[:len(s)-1])
		if len(told) != 0 || d != of(s[:len(s)-1]) {
			t.Fatalf("%U: %U told ahead of its end; %v", r, told, d)
		}
		if d, told = d.Feed(s[len(s)-1]); len(told) != 1 || told[0] != r || d != (utf.Decoder{}) {
			t.Fatalf("%U: %U, %v", r, told, d)
		}
	}
}

// From the zero Decoder any bytes lead to right ones alone, and to each of them: there are as many as are right of all that have an N from 0 to 3.
func TestRightAreThoseThatBytesLeadTo(t *testing.T) {
	reached := map[utf.Decoder]bool{{}: true}
	for next := []utf.Decoder{{}}; len(next) > 0; next = next[1:] {
		if !next[0].Right() {
			t.Fatalf("%v isn't right", next[0])
		}
		for c := range 256 {
			d, _ := next[0].Feed(byte(c))
			if !reached[d] {
				reached[d] = true
				next = append(next, d)
			}
		}
	}
	right := 0
	for n := range 4 {
		for i := range 1 << 24 {
			if (utf.Decoder{Bytes: [3]byte{byte(i >> 16), byte(i >> 8), byte(i)}, N: n}).Right() {
				right++
			}
		}
	}
	if right != len(reached) {
		t.Errorf("%d are right, bytes lead to %d", right, len(reached))
	}
}

// Long rows, of whole runes, of pieces of them, and of any bytes.
func TestLongRowsOfBytes(t *testing.T) {
	rnd := rand.New(rand.NewSource(5))
	pieces := texts()
	for range 2000 {
		var row []byte
		for range 1 + rnd.Intn(40) {
			switch rnd.Intn(3) {
			case 0:
				row = append(row, pieces[rnd.Intn(len(pieces))]...)
			case 1:
				row = append(row, string(rune(rnd.Intn(0x110000)))...)
			default:
				row = append(row, byte(rnd.Intn(256)))
			}
		}
		if d := differs(string(row)); d != "" {
			t.Fatal(d)
		}
	}
}
