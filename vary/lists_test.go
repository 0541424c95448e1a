package vary_test

import (
	"bytes"
	"slices"
	"testing"

	"flipbook/vary"
)

// takeAll: the numbers whose bytes these are, one behind the other; false: they are no list's bytes.
func takeAll(b []byte) ([]uint64, bool) {
	var l []uint64
	for len(b) > 0 {
		n, k := vary.Take(b)
		if k == 0 {
			return nil, false
		}
		l = append(l, n)
		b = b[k:]
	}
	return l, true
}

// lists: all lists of up to three of the edges.
func lists() [][]uint64 {
	out := [][]uint64{nil}
	for _, a := range edges() {
		out = append(out, []uint64{a})
		for _, b := range edges() {
			out = append(out, []uint64{a, b})
			for _, c := range edges() {
				out = append(out, []uint64{a, b, c})
			}
		}
	}
	return out
}

func TestListsComeBack(t *testing.T) {
	for _, l := range lists() {
		if back, ok := takeAll(vary.Put(nil, l...)); !ok || !slices.Equal(back, l) {
			t.Fatalf("%d: back as %d, %v", l, back, ok)
		}
	}
}

func TestUnlikeListsHaveUnlikeBytes(t *testing.T) {
	seen := map[string][]uint64{}
	for _, l := range lists() {
		b := string(vary.Put(nil, l...))
		if other, ok := seen[b]; ok && !slices.Equal(other, l) {
			t.Fatalf("%d and %d have the bytes % X", l, other, b)
		}
		seen[b] = l
	}
}

// Bytes that tell a list are that list's bytes: no list has two forms.
func TestBytesAreThoseOfTheListTheyTell(t *testing.T) {
	some := []byte{0, 1, 0x7F, 0x80, 0x81, 0xFF}
	for i := range 6 * 6 * 6 * 6 * 6 {
		b := []byte{some[i/1296], some[i/216%6], some[i/36%6], some[i/6%6], some[i%6]}
		if l, ok := takeAll(b); ok && !bytes.Equal(vary.Put(nil, l...), b) {
			t.Fatalf("% X tell %d, whose bytes are % X", b, l, vary.Put(nil, l...))
		}
	}
}

func TestEachNumberComesBack(t *testing.T) {
	for n := range uint64(1 << 17) {
		b := vary.Put(nil, n)
		if back, k := vary.Take(b); back != n || k != len(b) {
			t.Fatalf("%d: back as %d, of %d bytes", n, back, k)
		}
	}
	for bit := range 64 {
		for _, n := range []uint64{1 << bit, 1<<bit - 1, ^uint64(0) >> bit, ^uint64(0) << bit} {
			b := vary.Put(nil, n)
			if back, k := vary.Take(b); back != n || k != len(b) {
				t.Fatalf("%d: back as %d, of %d bytes", n, back, k)
			}
		}
	}
}
