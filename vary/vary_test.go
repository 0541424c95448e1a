package vary_test

import (
	"bytes"
	"encoding/binary"
	"math"
	"slices"
	"strings"
	"testing"

	"flipbook/vary"
)

// edges: numbers around those where a further piece begins, and around the ends of int and of 64 bits.
func edges() []uint64 {
	l := []uint64{0, 1, 2, 3, 5, 300, 1<<32 - 1, 1 << 32}
	for bits := 7; bits < 64; bits += 7 {
		l = append(l, 1<<bits-2, 1<<bits-1, 1<<bits, 1<<bits+1)
	}
	return append(l, math.MaxInt64-1, math.MaxInt64, 1<<63, 1<<63+1, math.MaxUint64-1, math.MaxUint64)
}

// wrongs: bytes that begin with no number's bytes.
func wrongs() map[string][]byte {
	nine := bytes.Repeat([]byte{0x80}, 9)
	full := bytes.Repeat([]byte{0xFF}, 9)
	return map[string][]byte{
		"nothing":                            nil,
		"one piece, the last one missing":    {0x80},
		"two pieces, the last one missing":   {0xFF, 0x81},
		"nine pieces, the last one missing":  nine,
		"ten pieces, the last one missing":   append(slices.Clone(nine), 0x81),
		"the last one of two is 0":           {0x80, 0},
		"the last one of two is 0, and more": {0xAC, 0, 1},
		"the last one of three is 0":         {0xAC, 0x82, 0},
		"the last one of ten is 0":           append(slices.Clone(full), 0),
		"the last one of eleven is 0":        append(slices.Clone(full), 0x81, 0),
		"65 bits":                            append(slices.Clone(nine), 2),
		"65 bits, all of them 1":             append(slices.Clone(full), 3),
		"70 bits":                            append(slices.Clone(full), 0x7F),
		"71 bits":                            append(slices.Clone(nine), 0x80, 1),
		"71 bits, the 64th of them 1":        append(slices.Clone(nine), 0x81, 1),
		"far more than 64 bits":              append(bytes.Repeat([]byte{0x80}, 100), 1),
	}
}

func TestPutWritesPieces(t *testing.T) {
	for _, c := range []struct {
		n    uint64
		want []byte
	}{
		{0, []byte{0}},
		{1, []byte{1}},
		{127, []byte{0x7F}},
		{128, []byte{0x80, 1}},
		{300, []byte{0xAC, 2}},
		{16383, []byte{0xFF, 0x7F}},
		{16384, []byte{0x80, 0x80, 1}},
		{math.MaxInt64, []byte{0xFF, 0xFF, 0xFF, 0xFF, 0xFF, 0xFF, 0xFF, 0xFF, 0x7F}},
		{1 << 63, []byte{0x80, 0x80, 0x80, 0x80, 0x80, 0x80, 0x80, 0x80, 0x80, 1}},
		{math.MaxUint64, []byte{0xFF, 0xFF, 0xFF, 0xFF, 0xFF, 0xFF, 0xFF, 0xFF, 0xFF, 1}},
	} {
		if b := vary.Put(nil, c.n); !bytes.Equal(b, c.want) {
			t.Errorf("Put of %d: % X, want % X", c.n, b, c.want)
		}
	}
	for _, n := range edges() {
		if b, want := vary.Put(nil, n), binary.AppendUvarint(nil, n); !bytes.Equal(b, want) {
			t.Errorf("Put of %d: % X, want % X", n, b, want)
		}
	}
}

func TestPutIsHandedAnyNumberOfNumbers(t *testing.T) {
	if b := vary.Put(nil); len(b) != 0 {
		t.Errorf("no numbers behind nothing: % X", b)
	}
	if b := vary.Put([]byte{7, 0x80}); !bytes.Equal(b, []byte{7, 0x80}) {
		t.Errorf("no numbers behind two bytes: % X", b)
	}
	if b := vary.Put([]byte{7}, 300, 0, 128); !bytes.Equal(b, []byte{7, 0xAC, 2, 0, 0x80, 1}) {
		t.Errorf("three numbers behind a byte: % X", b)
	}
	l := edges()
	var want []byte
	for _, n := range l {
		want = binary.AppendUvarint(want, n)
	}
	if b := vary.Put(nil, l...); !bytes.Equal(b, want) {
		t.Errorf("all edges: % X, want % X", b, want)
	}
	if !slices.Equal(l, edges()) {
		t.Error("the list that was handed in is changed")
	}
}

func TestPutsLeaveTheBytesAhead(t *testing.T) {
	for _, room := range []int{0, 1, 100} {
		ahead := append(make([]byte, 0, 3+room), 1, 0xFF, 0)
		number := slices.Clone(vary.Put(ahead, 300))
		text := slices.Clone(vary.PutText(ahead, "ab"))
		if !bytes.Equal(ahead, []byte{1, 0xFF, 0}) {
			t.Errorf("room %d: the bytes handed in are % X", room, ahead)
		}
		if !bytes.Equal(number, []byte{1, 0xFF, 0, 0xAC, 2}) || !bytes.Equal(text, []byte{1, 0xFF, 0, 2, 'a', 'b'}) {
			t.Errorf("room %d: % X, % X", room, number, text)
		}
	}
}

func TestPutText(t *testing.T) {
	for _, s := range []string{"", "a", "ab\x00", "\xff\x80", strings.Repeat("x", 127), strings.Repeat("x", 128), strings.Repeat("y", 20000)} {
		want := append(binary.AppendUvarint([]byte{9}, uint64(len(s))), s...)
		if b := vary.PutText([]byte{9}, s); !bytes.Equal(b, want) {
			t.Errorf("text of %d bytes: % X", len(s), b)
		}
	}
	if b := vary.PutText(nil, ""); !bytes.Equal(b, []byte{0}) {
		t.Errorf("empty text behind nothing: % X", b)
	}
}

func TestTakeOfWrongBytes(t *testing.T) {
	for name, b := range wrongs() {
		was := slices.Clone(b)
		if n, k := vary.Take(b); n != 0 || k != 0 {
			t.Errorf("%s: Take of % X: %d, %d", name, b, n, k)
		}
		if !bytes.Equal(b, was) {
			t.Errorf("%s: the bytes handed in are changed", name)
		}
	}
}

func TestTakeLooksAtTheFirstNumberAlone(t *testing.T) {
	for _, n := range edges() {
		own := binary.AppendUvarint(nil, n)
		for _, behind := range [][]byte{nil, {0}, {1}, {0x80}, {0x80, 0}, {0xFF, 0xFF, 0xFF}} {
			b := append(slices.Clone(own), behind...)
			if got, k := vary.Take(b); got != n || k != len(own) {
				t.Errorf("Take of % X: %d, %d, want %d, %d", b, got, k, n, len(own))
			}
		}
		for cut := range own {
			if got, k := vary.Take(own[:cut]); got != 0 || k != 0 {
				t.Errorf("Take of % X: %d, %d", own[:cut], got, k)
			}
		}
	}
}

// first: the number whose bytes b begins with, by the library's reckoning, that lets pieces of 0 on top pass.
func first(b []byte) (uint64, int) {
	n, k := binary.Uvarint(b)
	if k <= 0 || !bytes.Equal(binary.AppendUvarint(nil, n), b[:k]) {
		return 0, 0
	}
	return n, k
}

func TestTakeOfAnyBytes(t *testing.T) {
	check := func(b []byte) {
		n, k := vary.Take(b)
		if wantN, wantK := first(b); n != wantN || k != wantK {
			t.Fatalf("Take of % X: %d, %d, want %d, %d", b, n, k, wantN, wantK)
		}
	}
	for i := range 1 << 16 {
		check([]byte{byte(i >> 8)})
		check([]byte{byte(i >> 8), byte(i)})
	}
	some := []byte{0, 1, 2, 0x7F, 0x80, 0x81, 0x82, 0xFF}
	for ahead := range 12 {
		for _, fill := range []byte{0x80, 0xAC, 0xFF} {
			for i := range 8 * 8 * 8 {
				check(append(bytes.Repeat([]byte{fill}, ahead), some[i/64], some[i/8%8], some[i%8]))
			}
		}
	}
}

func TestZigAndZag(t *testing.T) {
	for _, c := range []struct {
		n int
		u uint64
	}{
		{0, 0}, {-1, 1}, {1, 2}, {-2, 3}, {2, 4}, {3, 6}, {-64, 127}, {64, 128},
		{1 << 62, 1 << 63}, {-(1 << 62), 1<<63 - 1},
		{math.MaxInt64, math.MaxUint64 - 1}, {math.MinInt64, math.MaxUint64},
		{math.MaxInt64 - 1, math.MaxUint64 - 3}, {math.MinInt64 + 1, math.MaxUint64 - 2},
	} {
		if u := vary.Zig(c.n); u != c.u {
			t.Errorf("Zig of %d: %d, want %d", c.n, u, c.u)
		}
		if n := vary.Zag(c.u); n != c.n {
			t.Errorf("Zag of %d: %d, want %d", c.u, n, c.n)
		}
	}
	for _, u := range edges() {
		if back := vary.Zig(vary.Zag(u)); back != u {
			t.Errorf("Zig of Zag of %d: %d", u, back)
		}
		for _, n := range []int{int(u), -int(u)} {
			if back := vary.Zag(vary.Zig(n)); back != n {
				t.Errorf("Zag of Zig of %d: %d", n, back)
			}
		}
	}
}
