package file_test

import (
	"math"
	"slices"
	"strings"
	"testing"

	"flipbook/api"
	"flipbook/file"
)

func TestCrashOfTheExample(t *testing.T) {
	s := file.New(10)
	expect(t, "three bytes", s.Append("a", []byte("abc")), api.OK)
	s.Crash(1)
	expectFile(t, s, "a", "a", 1)
}

func TestCrashKeeps(t *testing.T) {
	for _, c := range []struct {
		keep    []int
		a, b, c string
	}{
		{nil, "abc", "", ""},
		{[]int{0}, "abc", "", ""},
		{[]int{1}, "abcd", "", ""},
		{[]int{2, 1}, "abcde", "x", ""},
		{[]int{3, 3, 0}, "abcdef", "xyz", ""},
		{[]int{4, 4, 4}, "abcdef", "xyz", ""},
		{[]int{0, 2, 9, 9, 9}, "abc", "xy", ""},
		{[]int{-1, 2}, "abc", "xy", ""},
		{[]int{1, -1}, "abcd", "", ""},
		{[]int{-5, -5, -5}, "abc", "", ""},
		{[]int{math.MaxInt64, math.MaxInt64, math.MaxInt64, math.MaxInt64}, "abcdef", "xyz", ""},
		{[]int{math.MinInt64, math.MinInt64, math.MinInt64, math.MinInt64}, "abc", "", ""},
	} {
		s := stocked(t)
		s.Crash(c.keep...)
		// All that a file has is sure.
		expectFile(t, s, "a", c.a, len(c.a))
		expectFile(t, s, "b", c.b, len(c.b))
		expectFile(t, s, "c", c.c, len(c.c))
		if !s.Up() || s.Used() != len(c.a)+len(c.b)+len(c.c) || !slices.Equal(s.Names(), []string{"a", "b", "c"}) {
			t.Errorf("%d: %s", c.keep, told(s))
		}
		// A second one takes nothing, whatever it keeps.
		was := told(s)
		for _, again := range [][]int{nil, {0, 0, 0}, {-1, 5}, c.keep} {
			s.Crash(again...)
			if is := told(s); is != was {
				t.Errorf("%d, then %d: it was %s, and is %s", c.keep, again, was, is)
			}
		}
	}
}

// The numbers go by the names as they are, in the order of their bytes, not by when files came.
func TestCrashGoesByRisingNames(t *testing.T) {
	l := []string{"\x00", "B", "a", "aa", "pane1", "pane10", "pane2", "~", "é", "\xFF"}
	keep := []int{3, 1, 4, 1, 5, 0, 2, 6, 5, 3}
	for step := range len(l) {
		s := file.New(1000)
		for i := range l {
			expect(t, "append", s.Append(l[(i*7+step)%len(l)], []byte("12345678")), api.OK)
		}
		s.Crash(keep...)
		for i, name := range l {
			expectFile(t, s, name, "12345678"[:keep[i]], keep[i])
		}
	}
}

func TestCrashOfNoFiles(t *testing.T) {
	s := file.New(10)
	s.Crash(1, 2, 3)
	if !s.Up() || len(s.Names()) != 0 || s.Used() != 0 {
		t.Error(told(s))
	}
}

func TestCrashRaisesAndTakesTheFuseAway(t *testing.T) {
	for _, fuse := range []int{0, 1, 2} {
		s := stocked(t)
		s.Fuse(fuse)
		s.Crash()
		for range 10 {
			expect(t, "a change", s.Sync("b"), api.OK)
		}
		x := stocked(t)
		x.Fuse(fuse)
		for range fuse + 1 {
			x.Sync("b")
		}
		expectDown(t, x)
		x.Crash()
		for range 10 {
			expect(t, "a change behind it", x.Sync("b"), api.OK)
		}
		expectFile(t, x, "a", "abc", 3)
	}
}

func TestStoreGoesOnBehindACrash(t *testing.T) {
	s := stocked(t)
	s.Crash(1, 1)
	expect(t, "append", s.Append("a", []byte("12")), api.OK)
	expectFile(t, s, "a", "abcd12", 4)
	expectFile(t, s, "b", "x", 1)
	s.Crash()
	expectFile(t, s, "a", "abcd", 4)
	expect(t, "append", s.Append("a", []byte("34")), api.OK)
	s.Crash(1)
	expectFile(t, s, "a", "abcd3", 5)
	s.Fuse(0)
	expect(t, "a new fuse", s.Sync("a"), api.ErrDown)
	expectDown(t, s)
}

// Bytes that a cut or a crash took away don't come back behind others.
func TestWhatIsGoneStaysGone(t *testing.T) {
	s := stocked(t)
	expect(t, "cut", s.Cut("a", 4), api.OK)
	expect(t, "append", s.Append("a", []byte("1")), api.OK)
	s.Crash(100)
	expectFile(t, s, "a", "abcd1", 5)
	expect(t, "append", s.Append("a", []byte("23")), api.OK)
	s.Crash(1)
	s.Crash(100)
	expectFile(t, s, "a", "abcd12", 6)
}

// lasting: what may be done with other files, and with the file a itself, while its first three bytes, which are sure, last.
func lasting() []func(s *file.Store) {
	return []func(s *file.Store){
		func(s *file.Store) { s.Append("a", []byte("12")) },
		func(s *file.Store) { s.Sync("a") },
		func(s *file.Store) { s.Cut("a", 3) },
		func(s *file.Store) { s.Cut("a", 100) },
		func(s *file.Store) { s.Rename("a", "a") },
		func(s *file.Store) { s.Rename("a", "d"); s.Rename("d", "a") },
		func(s *file.Store) { s.Rename("none", "a") },
		func(s *file.Store) { s.Append("b", []byte("12")) },
		func(s *file.Store) { s.Append("none", make([]byte, 1000)) },
		func(s *file.Store) { s.Cut("b", 0) },
		func(s *file.Store) { s.Delete("b") },
		func(s *file.Store) { s.Rename("c", "b") },
		func(s *file.Store) { s.Fuse(0); s.Delete("a") },
		func(s *file.Store) { s.Fuse(0); s.Cut("a", 0) },
		func(s *file.Store) { s.Fuse(0); s.Rename("b", "a") },
		func(s *file.Store) { s.Fuse(0); s.Sync("a") },
		func(s *file.Store) { s.Crash() },
		func(s *file.Store) { s.Crash(-1, 100, 5) },
		func(s *file.Store) { s.Crash(1, 1, 1, 1) },
	}
}

// P4.2: of all rows of four of these, with a crash behind them.
func TestWhatIsSureLasts(t *testing.T) {
	l := lasting()
	for i := range len(l) * len(l) * len(l) * len(l) {
		s := stocked(t)
		for rest := i; rest > 0; rest /= len(l) {
			l[rest%len(l)](s)
		}
		if i%3 > 0 {
			s.Crash()
		} else {
			s.Crash(i%5, i%2)
		}
		b, e := s.Read("a")
		if e != api.OK || !strings.HasPrefix(string(b), "abc") {
			t.Fatalf("row %d: %q, %d; %s", i, b, int(e), told(s))
		}
	}
}

func TestWhatIsSureLastsTillItIsCutOrDeletedOrReplaced(t *testing.T) {
	s := stocked(t)
	expect(t, "cut", s.Cut("a", 1), api.OK)
	s.Crash()
	expectFile(t, s, "a", "a", 1)
	expect(t, "delete", s.Delete("a"), api.OK)
	s.Crash(5, 5, 5)
	expectNoFile(t, s, "a")
	x := stocked(t)
	expect(t, "rename", x.Rename("b", "a"), api.OK)
	x.Crash()
	expectFile(t, x, "a", "", 0)
	expectNoFile(t, x, "b")
	// What is sure goes with the file to its new name.
	y := stocked(t)
	expect(t, "rename", y.Rename("a", "b"), api.OK)
	y.Crash()
	expectNoFile(t, y, "a")
	expectFile(t, y, "b", "abc", 3)
}
