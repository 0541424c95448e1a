package crc_test

import (
	"bytes"
	"encoding/binary"
	"hash/crc32"
	"math"
	"testing"

	"flipbook/crc"
)

// some: n bytes of which most are unlike their neighbours, by a fixed rule.
func some(n int) []byte {
	b := make([]byte, n)
	x := uint32(n) + 12345
	for i := range b {
		x = x*1664525 + 1013904223
		b[i] = byte(x >> 24)
	}
	return b
}

// contents: bytes to put into frames: nothing, few, and as many as need a further piece of length.
func contents() [][]byte {
	l := [][]byte{nil, {0}, {0xFF}, {0, 0, 0, 0}, {0x80}, []byte("123456789")}
	for _, n := range []int{2, 3, 4, 5, 6, 7, 8, 126, 127, 128, 129, 300, 16383, 16384} {
		l = append(l, some(n))
	}
	return l
}

// frameOf: a frame made by other means than the package's own.
func frameOf(b []byte) []byte {
	f := append(binary.AppendUvarint(nil, uint64(len(b))), b...)
	return binary.LittleEndian.AppendUint32(f, crc32.ChecksumIEEE(f))
}

// sealed: bytes whatever, and behind them their right sum.
func sealed(b ...byte) []byte {
	return binary.LittleEndian.AppendUint32(b, crc32.ChecksumIEEE(b))
}

// expectNone: bytes that begin with no frame.
func expectNone(t *testing.T, name string, b []byte) {
	t.Helper()
	if f, n := crc.Next(b); n != 0 || len(f) != 0 {
		t.Fatalf("%s: Next: % X, %d", name, f, n)
	}
	if l, n := crc.Split(b); n != 0 || len(l) != 0 {
		t.Fatalf("%s: Split: % X, %d", name, l, n)
	}
}

func TestSumOfTheExample(t *testing.T) {
	if s := crc.Sum([]byte("123456789")); s != 0xCBF43926 {
		t.Errorf("%X", s)
	}
}

func TestSumOfFewBytes(t *testing.T) {
	for _, b := range [][]byte{nil, {}} {
		if s := crc.Sum(b); s != 0 {
			t.Errorf("of nothing: %X", s)
		}
	}
	for a := range 256 {
		one := []byte{byte(a)}
		if s, want := crc.Sum(one), crc32.ChecksumIEEE(one); s != want {
			t.Fatalf("of % X: %X, want %X", one, s, want)
		}
		for b := range 256 {
			two := []byte{byte(a), byte(b)}
			if s, want := crc.Sum(two), crc32.ChecksumIEEE(two); s != want {
				t.Fatalf("of % X: %X, want %X", two, s, want)
			}
		}
	}
}

func TestSumOfManyBytes(t *testing.T) {
	for n := range 600 {
		b := some(n)
		if s, want := crc.Sum(b), crc32.ChecksumIEEE(b); s != want {
			t.Fatalf("of %d bytes: %X, want %X", n, s, want)
		}
	}
	for _, n := range []int{4, 16384, 100000} {
		for _, x := range []byte{0, 0xFF, 0x80, 1} {
			b := bytes.Repeat([]byte{x}, n)
			if s, want := crc.Sum(b), crc32.ChecksumIEEE(b); s != want {
				t.Fatalf("of %X, %d times: %X, want %X", x, n, s, want)
			}
		}
	}
}

func TestFrame(t *testing.T) {
	for _, b := range contents() {
		if f, want := crc.Frame(nil, b), frameOf(b); !bytes.Equal(f, want) {
			t.Errorf("of %d bytes: % X, want % X", len(b), f, want)
		}
	}
}

func TestFrameOfNothingHasFiveBytes(t *testing.T) {
	for _, b := range [][]byte{nil, {}} {
		f := crc.Frame(nil, b)
		if !bytes.Equal(f, sealed(0)) || len(f) != 5 {
			t.Errorf("% X", f)
		}
		got, n := crc.Next(f)
		if n != 5 || len(got) != 0 {
			t.Errorf("back as % X, %d", got, n)
		}
		l, n := crc.Split(f)
		if n != 5 || len(l) != 1 || len(l[0]) != 0 {
			t.Errorf("split as % X, %d", l, n)
		}
	}
}

func TestFrameStandsBehindOtherBytes(t *testing.T) {
	for _, b := range contents() {
		for _, out := range [][]byte{{}, {0x80}, some(9), frameOf([]byte("ab"))} {
			kept := bytes.Clone(out)
			want := append(bytes.Clone(out), frameOf(b)...)
			if f := crc.Frame(out, b); !bytes.Equal(f, want) {
				t.Errorf("% X behind % X: % X", b, kept, f)
			}
			if !bytes.Equal(out, kept) {
				t.Errorf("% X became % X", kept, out)
			}
		}
	}
}

func TestFrameLeavesItsBytes(t *testing.T) {
	for _, b := range contents() {
		kept := bytes.Clone(b)
		f := crc.Frame(some(3), b)
		if !bytes.Equal(b, kept) {
			t.Fatalf("% X became % X", kept, b)
		}
		want := bytes.Clone(f)
		for i := range b {
			b[i] ^= 0xFF
		}
		if !bytes.Equal(f, want) {
			t.Fatal("a frame changes with the bytes that it was made of")
		}
	}
}

// As with append, what is behind bytes may be written over: the frame is right all the same.
func TestFrameOfBytesInTheSpareRoom(t *testing.T) {
	for from := range 12 {
		for to := from; to <= 20; to++ {
			room := some(40)
			b := room[from:to]
			want := append(bytes.Clone(room[:4]), frameOf(b)...)
			if f := crc.Frame(room[:4], b); !bytes.Equal(f, want) {
				t.Fatalf("bytes %d to %d: % X, want % X", from, to, f, want)
			}
		}
	}
}

func TestNext(t *testing.T) {
	for _, b := range contents() {
		frame := frameOf(b)
		for _, behind := range [][]byte{nil, {0}, {0x80}, some(7), frame, frame[:len(frame)-1]} {
			got, n := crc.Next(append(bytes.Clone(frame), behind...))
			if n != len(frame) || !bytes.Equal(got, b) {
				t.Errorf("% X, behind it % X: % X, %d", frame, behind, got, n)
			}
		}
	}
}

func TestNextTakesNoFrameFurtherOn(t *testing.T) {
	for _, b := range contents() {
		expectNone(t, "a byte ahead of a frame", append([]byte{0}, frameOf(b)...))
		expectNone(t, "a byte of no length ahead of a frame", append([]byte{0xFF, 0xFF}, frameOf(b)...))
	}
}

func TestSplit(t *testing.T) {
	all := contents()
	var b []byte
	for i := range all {
		b = crc.Frame(b, all[i])
		l, n := crc.Split(b)
		if n != len(b) || len(l) != i+1 {
			t.Fatalf("%d frames of %d bytes: %d of %d", i+1, len(b), len(l), n)
		}
		for j := range l {
			if !bytes.Equal(l[j], all[j]) {
				t.Fatalf("frame %d of %d: % X, want % X", j, i+1, l[j], all[j])
			}
		}
	}
}

func TestSplitEndsAtWhatIsNoFrame(t *testing.T) {
	two := crc.Frame(crc.Frame(nil, []byte("ab")), nil)
	torn := frameOf([]byte("abc"))
	turned := bytes.Clone(torn)
	turned[2] ^= 1
	for name, behind := range map[string][]byte{
		"nothing":                   nil,
		"a byte":                    {0},
		"no length":                 {0x80, 0},
		"a length alone":            {5},
		"a frame cut off":           torn[:len(torn)-1],
		"a byte turned":             turned,
		"a byte turned, and frames": append(bytes.Clone(turned), two...),
		"a byte and frames":         append([]byte{1}, two...),
	} {
		l, n := crc.Split(append(bytes.Clone(two), behind...))
		if n != len(two) || len(l) != 2 || string(l[0]) != "ab" || len(l[1]) != 0 {
			t.Errorf("%s: %q, %d", name, l, n)
		}
	}
}

func TestWrongBytes(t *testing.T) {
	long := func(n uint64, rest ...byte) []byte { return append(binary.AppendUvarint(nil, n), rest...) }
	for name, b := range map[string][]byte{
		"nothing":                              nil,
		"no bytes":                             {},
		"a byte":                               {0},
		"four bytes":                           {0, 0, 0, 0},
		"a sum of 0":                           {0, 0, 0, 0, 0},
		"zeroes":                               make([]byte, 50),
		"ones":                                 bytes.Repeat([]byte{0xFF}, 50),
		"no last piece":                        {0x80},
		"no last piece, and a sum":             sealed(0x80),
		"a last piece of 0":                    sealed(0x80, 0),
		"a last piece of 0 behind one":         sealed(0x81, 0, 'a'),
		"more than 64 bits":                    sealed(0x80, 0x80, 0x80, 0x80, 0x80, 0x80, 0x80, 0x80, 0x80, 2),
		"a length greater by one":              sealed(3, 'a', 'b'),
		"a length greater by four":             sealed(6, 'a', 'b'),
		"a length greater by five":             sealed(7, 'a', 'b'),
		"a length less by one":                 sealed(1, 'a', 'b'),
		"a length of 2^31":                     sealed(long(1<<31, 'a', 'b')...),
		"a length of 2^32 more":                sealed(long(1<<32+2, 'a', 'b')...),
		"an int's greatest":                    sealed(long(math.MaxInt64, 'a')...),
		"an int's greatest less the head":      sealed(long(math.MaxInt64-9, 'a')...),
		"an int's greatest less head and sum":  sealed(long(math.MaxInt64-13, 'a')...),
		"a length of 2^63":                     sealed(long(1<<63, 'a')...),
		"the greatest length":                  sealed(long(math.MaxUint64, 'a')...),
		"the greatest length less one":         sealed(long(math.MaxUint64 - 1)...),
		"the greatest length less three":       sealed(long(math.MaxUint64 - 3)...),
		"the greatest length less head, sum":   sealed(long(math.MaxUint64 - 13)...),
		"a sum of the bytes without length":    append([]byte{9}, append([]byte("123456789"), 0x26, 0x39, 0xF4, 0xCB)...),
		"a sum with its highest byte first":    {1, 'a', frameOf([]byte("a"))[5], frameOf([]byte("a"))[4], frameOf([]byte("a"))[3], frameOf([]byte("a"))[2]},
		"a sum behind a byte too much":         append([]byte{1, 'a', 0}, frameOf([]byte("a"))[2:]...),
		"a sum of which three bytes are there": {1, 'a', frameOf([]byte("a"))[2], frameOf([]byte("a"))[3], frameOf([]byte("a"))[4]},
	} {
		expectNone(t, name, b)
	}
}

// Whatever bytes come, few of each kind: a frame is told just where one stands.
func TestBytesAreThoseOfTheFrameTheyTell(t *testing.T) {
	kinds := []byte{0, 1, 2, 0x80, 0x8D, 0xEF, 0x02, 0xD2, 0xFF}
	b := make([]byte, 6)
	for i := range 9 * 9 * 9 * 9 * 9 * 9 {
		for j, k := 0, i; j < 6; j, k = j+1, k/9 {
			b[j] = kinds[k%9]
		}
		f, n := crc.Next(b)
		if n == 0 && len(f) != 0 {
			t.Fatalf("% X: no frame, but % X", b, f)
		}
		if n > 0 && !bytes.Equal(frameOf(f), b[:n]) {
			t.Fatalf("% X: % X of %d", b, f, n)
		}
	}
}

func TestAnswersAreNewMemory(t *testing.T) {
	b := crc.Frame(crc.Frame(nil, []byte("ab")), []byte("cd"))
	kept := bytes.Clone(b)
	f, _ := crc.Next(b)
	l, _ := crc.Split(b)
	if !bytes.Equal(b, kept) {
		t.Fatal("reading changes the bytes")
	}
	for i := range b {
		b[i] = 0
	}
	if string(f) != "ab" || string(l[0]) != "ab" || string(l[1]) != "cd" {
		t.Errorf("with the bytes gone: %q, %q", f, l)
	}
	_ = append(l[0], "xyzxyzxyz"...)
	for i := range l[0] {
		l[0][i] = 'z'
	}
	if string(f) != "ab" || string(l[1]) != "cd" {
		t.Errorf("one answer written over: %q, %q", f, l[1])
	}
	if !bytes.Equal(b, make([]byte, len(b))) {
		t.Errorf("an answer written over changes the bytes: % X", b)
	}
}
