package vary_test

import (
	"bytes"
	"math"
	"slices"
	"strings"
	"testing"

	"flipbook/vary"
)

// expectNothing: once something wasn't there, nothing is, whatever is asked.
func expectNothing(t *testing.T, name string, r *vary.Reader) {
	t.Helper()
	for _, limit := range []int{0, 1, 256, -1, math.MaxInt64, math.MinInt64} {
		if r.Good() || r.Done() {
			t.Errorf("%s: Good %v, Done %v", name, r.Good(), r.Done())
		}
		if n := r.Num(limit); n != 0 {
			t.Errorf("%s: Num(%d): %d", name, limit, n)
		}
		if s := r.Text(limit); s != "" {
			t.Errorf("%s: Text(%d): %q", name, limit, s)
		}
	}
	if r.Good() || r.Done() {
		t.Errorf("%s: Good %v, Done %v", name, r.Good(), r.Done())
	}
}

// expectLeft: all was there so far, and just this number is left.
func expectLeft(t *testing.T, name string, r *vary.Reader, n int) {
	t.Helper()
	if !r.Good() || r.Done() {
		t.Errorf("%s: Good %v, Done %v", name, r.Good(), r.Done())
	}
	if got := r.Num(0); got != n {
		t.Errorf("%s: then %d, want %d", name, got, n)
	}
	if !r.Good() || !r.Done() {
		t.Errorf("%s: at the end Good %v, Done %v", name, r.Good(), r.Done())
	}
}

func TestNothingToRead(t *testing.T) {
	for _, b := range [][]byte{nil, {}} {
		r := vary.Of(b)
		if !r.Good() || !r.Done() {
			t.Errorf("nothing asked of nothing: Good %v, Done %v", r.Good(), r.Done())
		}
		if n := r.Num(0); n != 0 {
			t.Error(n)
		}
		expectNothing(t, "a number of nothing", r)
		x := vary.Of(b)
		if s := x.Text(5); s != "" {
			t.Error(s)
		}
		expectNothing(t, "a text of nothing", x)
	}
}

func TestNumGoesOn(t *testing.T) {
	r := vary.Of(vary.Put(nil, 300, 0, 127, math.MaxInt64, 5))
	for _, want := range []int{300, 0, 127, math.MaxInt64} {
		if n := r.Num(0); n != want {
			t.Errorf("Num: %d, want %d", n, want)
		}
	}
	expectLeft(t, "behind four numbers", r, 5)
	if n := r.Num(0); n != 0 {
		t.Error(n)
	}
	expectNothing(t, "behind the last number", r)
}

func TestNumLimits(t *testing.T) {
	for _, c := range []struct {
		n     uint64
		limit int
		there bool
	}{
		{0, 1, true}, {1, 1, false}, {4, 6, true}, {5, 6, true}, {6, 6, false}, {7, 6, false},
		{299, 300, true}, {300, 300, false}, {math.MaxUint64, 300, false}, {1 << 63, 1, false},
		{math.MaxInt64 - 1, math.MaxInt64, true}, {math.MaxInt64, math.MaxInt64, false}, {1 << 63, math.MaxInt64, false},
		{0, 0, true}, {300, 0, true}, {math.MaxInt64, 0, true}, {1 << 63, 0, false}, {math.MaxUint64, 0, false},
		{0, -1, true}, {300, -1, true}, {math.MaxInt64, -5, true}, {1 << 63, -5, false}, {math.MaxUint64, -1, false},
		{7, math.MinInt64, true}, {math.MaxInt64, math.MinInt64, true}, {1 << 63, math.MinInt64, false},
	} {
		r := vary.Of(vary.Put(nil, c.n, 1))
		n := r.Num(c.limit)
		if c.there {
			if uint64(n) != c.n {
				t.Errorf("Num(%d) of %d: %d", c.limit, c.n, n)
			}
			expectLeft(t, "a number below its limit", r, 1)
			continue
		}
		if n != 0 {
			t.Errorf("Num(%d) of %d: %d", c.limit, c.n, n)
		}
		expectNothing(t, "a number not below its limit", r)
	}
}

func TestReaderOfWrongBytes(t *testing.T) {
	for name, b := range wrongs() {
		r := vary.Of(append([]byte{3}, b...))
		if n := r.Num(0); n != 3 || !r.Good() {
			t.Errorf("%s: the number ahead: %d", name, n)
		}
		if n := r.Num(0); n != 0 {
			t.Errorf("%s: Num: %d", name, n)
		}
		expectNothing(t, name, r)
		x := vary.Of(b)
		if s := x.Text(math.MaxInt64); s != "" {
			t.Errorf("%s: Text: %q", name, s)
		}
		expectNothing(t, name, x)
	}
}

func TestTextLimits(t *testing.T) {
	for _, c := range []struct {
		length, most int
		there        bool
	}{
		{0, 0, true}, {0, 5, true}, {0, -1, true}, {0, math.MinInt64, true},
		{1, 0, false}, {1, 1, true}, {1, -1, false}, {1, -5, false}, {1, math.MinInt64, false},
		{2, 1, false}, {2, 2, true}, {40, 40, true}, {41, 40, false},
		{127, 127, true}, {128, 127, false}, {128, 128, true}, {400, 400, true}, {401, 400, false},
		{3, math.MaxInt64 - 1, true}, {3, math.MaxInt64, true},
	} {
		s := strings.Repeat("x", c.length)
		r := vary.Of(vary.Put(vary.PutText(nil, s), 1))
		got := r.Text(c.most)
		if c.there {
			if got != s {
				t.Errorf("Text(%d) of %d bytes: %q", c.most, c.length, got)
			}
			expectLeft(t, "a text no longer than may be", r, 1)
			continue
		}
		if got != "" {
			t.Errorf("Text(%d) of %d bytes: %q", c.most, c.length, got)
		}
		expectNothing(t, "a text longer than may be", r)
	}
}

func TestTextThatIsCutOff(t *testing.T) {
	for _, b := range [][]byte{
		{1}, {2, 'a'}, {5, 'a', 'b', 'c', 'd'}, {0x80, 1, 'a'},
		append(vary.Put(nil, math.MaxInt64), "abc"...),
		append(vary.Put(nil, 1<<63), "abc"...),
		append(vary.Put(nil, math.MaxUint64), "abc"...),
	} {
		r := vary.Of(b)
		if s := r.Text(math.MaxInt64); s != "" {
			t.Errorf("Text of % X: %q", b, s)
		}
		expectNothing(t, "a text that is cut off", r)
	}
}

func TestTextsOfAnyBytes(t *testing.T) {
	l := []string{"", "ab", "\x00\x80\xff", "", "\xe2\x82\xac", strings.Repeat("\x01", 400), "z"}
	var b []byte
	for i, s := range l {
		b = vary.Put(vary.PutText(b, s), uint64(i))
	}
	r := vary.Of(b)
	for i, s := range l {
		if got := r.Text(400); got != s {
			t.Errorf("text %d: %q, want %q", i, got, s)
		}
		if r.Done() {
			t.Errorf("done behind text %d", i)
		}
		if n := r.Num(len(l)); n != i {
			t.Errorf("number %d: %d", i, n)
		}
	}
	if !r.Good() || !r.Done() {
		t.Error("not all was there")
	}
}

func TestAskingChangesNothing(t *testing.T) {
	r := vary.Of([]byte{1, 2})
	for range 3 {
		if !r.Good() || r.Done() {
			t.Error("at the beginning")
		}
	}
	if r.Num(0) != 1 || r.Num(0) != 2 {
		t.Error("numbers")
	}
	for range 3 {
		if !r.Good() || !r.Done() {
			t.Error("at the end")
		}
	}
}

func TestReaderKeepsAndChangesNothingHandedIn(t *testing.T) {
	b := vary.PutText(vary.Put(nil, 300), "ab")
	was := slices.Clone(b)
	r, x := vary.Of(b), vary.Of(b)
	if x.Num(0) != 300 || x.Text(2) != "ab" || !x.Done() || !bytes.Equal(b, was) {
		t.Error("bytes that are read are changed")
	}
	clear(b)
	if r.Num(0) != 300 || r.Text(2) != "ab" || !r.Done() {
		t.Error("what is read hangs on what became of the bytes behind Of")
	}
}

func TestReadersOfOneListAreNotOne(t *testing.T) {
	b := []byte{1, 2}
	r, x := vary.Of(b), vary.Of(b)
	if r.Num(1) != 0 || r.Good() || !x.Good() || x.Num(0) != 1 || x.Num(0) != 2 || !x.Done() {
		t.Error("one reader's matter is another one's")
	}
}

// P0: whatever bytes, and whatever is asked of them, each call ends and none panics.
func TestReaderOfAnyBytes(t *testing.T) {
	limits := []int{math.MinInt64, -1, 0, 1, 2, 200, math.MaxInt64}
	some := []byte{0, 1, 2, 'a', 0x80, 0xFF}
	for i := range 6 * 6 * 6 * 6 {
		b := []byte{some[i/216], some[i/36%6], some[i/6%6], some[i%6]}
		for j := range limits {
			r := vary.Of(b)
			for k := range 6 {
				if limit := limits[(j+k)%len(limits)]; (i+k)%2 == 0 {
					r.Num(limit)
				} else {
					r.Text(limit)
				}
				if r.Done() && !r.Good() {
					t.Fatalf("% X: Done, but not Good", b)
				}
			}
		}
	}
}
