package file_test

import (
	"fmt"
	"math"
	"slices"
	"strings"
	"testing"

	"flipbook/api"
	"flipbook/file"
)

// told: all that the calls which change nothing tell of a store. No file of the tests has a name that isn't asked for here or by Names.
func told(s *file.Store) string {
	var out strings.Builder
	fmt.Fprintf(&out, "up %v, used %d, names %q", s.Up(), s.Used(), s.Names())
	for _, name := range append(s.Names(), "a", "b", "c", "none", "") {
		b, e := s.Read(name)
		fmt.Fprintf(&out, "; %q: %q %d, %d sure", name, b, int(e), s.Sure(name))
	}
	return out.String()
}

// expect: what a call answers.
func expect(t *testing.T, what string, got, want api.Errno) {
	t.Helper()
	if got != want {
		t.Errorf("%s: %d, want %d", what, int(got), int(want))
	}
}

// expectFile: there is a file of just these bytes, so many of them sure.
func expectFile(t *testing.T, s *file.Store, name, text string, sure int) {
	t.Helper()
	b, e := s.Read(name)
	if e != api.OK || string(b) != text || s.Sure(name) != sure || !slices.Contains(s.Names(), name) {
		t.Errorf("%q: %q (%d), %d sure; want %q, %d sure; names %q", name, b, int(e), s.Sure(name), text, sure, s.Names())
	}
}

// expectNoFile: there is none of that name.
func expectNoFile(t *testing.T, s *file.Store, name string) {
	t.Helper()
	b, e := s.Read(name)
	if e != api.ErrNone || len(b) != 0 || s.Sure(name) != 0 || slices.Contains(s.Names(), name) {
		t.Errorf("%q: %q (%d), %d sure; names %q", name, b, int(e), s.Sure(name), s.Names())
	}
}

// expectRefused: a call answers this error, and has changed nothing.
func expectRefused(t *testing.T, what string, s *file.Store, call func() api.Errno, want api.Errno) {
	t.Helper()
	was := told(s)
	expect(t, what, call(), want)
	if is := told(s); is != was {
		t.Errorf("%s: it was %s, and is %s", what, was, is)
	}
}

// stocked: a store of 20 bytes with the files a (abcdef, three sure), b (xyz, none sure) and c (no bytes).
func stocked(t *testing.T) *file.Store {
	t.Helper()
	s := file.New(20)
	expect(t, "a", s.Append("a", []byte("abc")), api.OK)
	expect(t, "sync of a", s.Sync("a"), api.OK)
	expect(t, "more of a", s.Append("a", []byte("def")), api.OK)
	expect(t, "b", s.Append("b", []byte("xyz")), api.OK)
	expect(t, "c", s.Append("c", nil), api.OK)
	return s
}

func TestNew(t *testing.T) {
	for _, quota := range []int{10, 1, 0, -1, math.MaxInt64, math.MinInt64} {
		s := file.New(quota)
		if !s.Up() || s.Used() != 0 || len(s.Names()) != 0 || s.Sure("a") != 0 {
			t.Errorf("%d: %s", quota, told(s))
		}
		expectNoFile(t, s, "a")
		// Without a fuse any number of changes are done.
		for i := range 100 {
			if e := s.Append("a", nil); e != api.OK {
				t.Fatalf("quota %d, change %d: %d", quota, i, int(e))
			}
		}
	}
}

func TestStoresAreNotOne(t *testing.T) {
	s, x := file.New(5), file.New(5)
	expect(t, "one", s.Append("a", []byte("abcde")), api.OK)
	expectNoFile(t, x, "a")
	s.Fuse(0)
	expect(t, "the other", x.Append("b", []byte("12345")), api.OK)
	expectNoFile(t, s, "b")
}

func TestAppend(t *testing.T) {
	s := file.New(100)
	expect(t, "a new file", s.Append("a", []byte("ab")), api.OK)
	expectFile(t, s, "a", "ab", 0)
	expect(t, "behind it", s.Append("a", []byte("cde")), api.OK)
	expectFile(t, s, "a", "abcde", 0)
	expect(t, "another one", s.Append("b", []byte{0, 0xFF, '\n'}), api.OK)
	expectFile(t, s, "b", "\x00\xFF\n", 0)
	expectFile(t, s, "a", "abcde", 0)
	if s.Used() != 8 {
		t.Error(s.Used())
	}
}

func TestAppendedBytesAreNotSure(t *testing.T) {
	s := stocked(t)
	expectFile(t, s, "a", "abcdef", 3)
	expectFile(t, s, "b", "xyz", 0)
}

func TestAppendOfNoBytes(t *testing.T) {
	for _, b := range [][]byte{nil, {}} {
		s := file.New(0)
		expect(t, "a new file", s.Append("a", b), api.OK)
		expectFile(t, s, "a", "", 0)
		expect(t, "behind it", s.Append("a", b), api.OK)
		expectFile(t, s, "a", "", 0)
		x := stocked(t)
		expect(t, "behind bytes", x.Append("a", b), api.OK)
		expectFile(t, x, "a", "abcdef", 3)
	}
}

func TestNamesThatMayBe(t *testing.T) {
	for _, name := range []string{"a", "ab", "~", " ", "\x00", "\xFF", "pane0", "a/b", ".", "..", "12345678901", "123456789012", "\x00\x00\x00\x00\x00\x00\x00\x00\x00\x00\x00\x00", "éééééé"} {
		s := file.New(9)
		expect(t, name, s.Append(name, []byte("abc")), api.OK)
		expectFile(t, s, name, "abc", 0)
		x := stocked(t)
		expect(t, name, x.Rename("a", name), api.OK)
		expectFile(t, x, name, "abcdef", 3)
	}
}

func TestNamesThatMayNotBe(t *testing.T) {
	for _, name := range []string{"", "1234567890123", "éééééé1", "ééééééé", strings.Repeat("x", 25), strings.Repeat("\x00", 13), strings.Repeat("x", 1<<16)} {
		s := stocked(t)
		for _, b := range [][]byte{nil, []byte("x"), make([]byte, 21)} {
			expectRefused(t, "append", s, func() api.Errno { return s.Append(name, b) }, api.ErrArg)
		}
		for _, from := range []string{"a", "none", "", name} {
			expectRefused(t, "rename", s, func() api.Errno { return s.Rename(from, name) }, api.ErrArg)
		}
		// No file can have it: of these calls there is simply none.
		expectRefused(t, "rename from", s, func() api.Errno { return s.Rename(name, "a") }, api.ErrNone)
		expectRefused(t, "sync", s, func() api.Errno { return s.Sync(name) }, api.ErrNone)
		expectRefused(t, "delete", s, func() api.Errno { return s.Delete(name) }, api.ErrNone)
		expectRefused(t, "cut", s, func() api.Errno { return s.Cut(name, 0) }, api.ErrNone)
		expectNoFile(t, s, name)
	}
}

func TestUnlikeNamesAreUnlikeFiles(t *testing.T) {
	s := file.New(100)
	l := []string{"a", "A", "a ", " a", "a\x00", "aa", "é", "e\u0301"}
	for i, name := range l {
		expect(t, name, s.Append(name, []byte{byte(i)}), api.OK)
	}
	for i, name := range l {
		expectFile(t, s, name, string([]byte{byte(i)}), 0)
	}
}

func TestRead(t *testing.T) {
	s := stocked(t)
	for range 3 {
		expectFile(t, s, "a", "abcdef", 3)
		expectFile(t, s, "c", "", 0)
		expectNoFile(t, s, "none")
	}
}

func TestSync(t *testing.T) {
	s := stocked(t)
	for range 2 {
		expect(t, "a", s.Sync("a"), api.OK)
		expectFile(t, s, "a", "abcdef", 6)
		expectFile(t, s, "b", "xyz", 0)
	}
	expect(t, "c", s.Sync("c"), api.OK)
	expectFile(t, s, "c", "", 0)
	expectRefused(t, "none", s, func() api.Errno { return s.Sync("none") }, api.ErrNone)
}

func TestRename(t *testing.T) {
	s := stocked(t)
	expect(t, "to a new name", s.Rename("a", "d"), api.OK)
	expectNoFile(t, s, "a")
	expectFile(t, s, "d", "abcdef", 3)
	expect(t, "back", s.Rename("d", "a"), api.OK)
	expectNoFile(t, s, "d")
	expectFile(t, s, "a", "abcdef", 3)
	if l := s.Names(); !slices.Equal(l, []string{"a", "b", "c"}) || s.Used() != 9 {
		t.Error(l, s.Used())
	}
}

func TestRenameTakesTheNameOfAnother(t *testing.T) {
	s := stocked(t)
	expect(t, "to b", s.Rename("a", "b"), api.OK)
	expectNoFile(t, s, "a")
	expectFile(t, s, "b", "abcdef", 3)
	if s.Used() != 6 {
		t.Error(s.Used())
	}
	// Neither the bytes nor what was sure of the file that is no more stays.
	x := stocked(t)
	expect(t, "over what is sure", x.Rename("b", "a"), api.OK)
	expectFile(t, x, "a", "xyz", 0)
	expectNoFile(t, x, "b")
	expect(t, "none over one", x.Rename("c", "a"), api.OK)
	expectFile(t, x, "a", "", 0)
	if x.Used() != 0 || len(x.Names()) != 1 {
		t.Error(told(x))
	}
}

func TestRenameToItsOwnName(t *testing.T) {
	s := stocked(t)
	was := told(s)
	for _, name := range []string{"a", "b", "c"} {
		expect(t, name, s.Rename(name, name), api.OK)
	}
	if is := told(s); is != was {
		t.Errorf("it was %s, and is %s", was, is)
	}
}

func TestRenameOfNone(t *testing.T) {
	s := stocked(t)
	for _, to := range []string{"a", "b", "d", "none"} {
		expectRefused(t, to, s, func() api.Errno { return s.Rename("none", to) }, api.ErrNone)
	}
}

// A file that has gone elsewhere and a new one of its elder name are two.
func TestRenamedFileIsNotTheOneBehindIt(t *testing.T) {
	s := stocked(t)
	expect(t, "a to d", s.Rename("a", "d"), api.OK)
	expect(t, "a new a", s.Append("a", []byte("new")), api.OK)
	expect(t, "more of d", s.Append("d", []byte("gh")), api.OK)
	expectFile(t, s, "a", "new", 0)
	expectFile(t, s, "d", "abcdefgh", 3)
}

func TestDelete(t *testing.T) {
	s := stocked(t)
	for _, name := range []string{"a", "c"} {
		expect(t, name, s.Delete(name), api.OK)
		expectNoFile(t, s, name)
		expectRefused(t, "a second time", s, func() api.Errno { return s.Delete(name) }, api.ErrNone)
	}
	if l := s.Names(); !slices.Equal(l, []string{"b"}) || s.Used() != 3 {
		t.Error(l, s.Used())
	}
	expectRefused(t, "none", s, func() api.Errno { return s.Delete("none") }, api.ErrNone)
	expect(t, "a new one", s.Append("a", []byte("12345")), api.OK)
	expectFile(t, s, "a", "12345", 0)
}

func TestCut(t *testing.T) {
	for _, c := range []struct {
		n    int
		text string
		sure int
	}{
		{math.MaxInt64, "abcdef", 3}, {100, "abcdef", 3}, {7, "abcdef", 3}, {6, "abcdef", 3}, {5, "abcde", 3}, {4, "abcd", 3}, {3, "abc", 3},
		{2, "ab", 2}, {1, "a", 1}, {0, "", 0}, {-1, "", 0}, {-6, "", 0}, {math.MinInt64, "", 0},
	} {
		s := stocked(t)
		expect(t, "cut", s.Cut("a", c.n), api.OK)
		expectFile(t, s, "a", c.text, c.sure)
		expectFile(t, s, "b", "xyz", 0)
		if s.Used() != len(c.text)+3 {
			t.Errorf("cut at %d: %d used", c.n, s.Used())
		}
		expect(t, "behind the cut", s.Append("a", []byte("12")), api.OK)
		expectFile(t, s, "a", c.text+"12", c.sure)
	}
}

func TestCutOfNoBytesAndOfNone(t *testing.T) {
	s := stocked(t)
	for _, n := range []int{0, 1, -1, math.MaxInt64, math.MinInt64} {
		expect(t, "c", s.Cut("c", n), api.OK)
		expectFile(t, s, "c", "", 0)
		expectRefused(t, "none", s, func() api.Errno { return s.Cut("none", n) }, api.ErrNone)
	}
}

func TestNamesRise(t *testing.T) {
	l := []string{"\x00", "\x00a", " ", "B", "a", "a\x00", "a ", "aa", "aaaaaaaaaaaa", "ab", "b", "pane0", "pane1", "pane10", "pane2", "~", "é", "\xFE", "\xFF"}
	if !slices.IsSorted(l) {
		t.Fatal("the test's own list")
	}
	for step := range len(l) {
		s := file.New(0)
		for i := range l {
			// 7 and the length have no part in common: each name comes once, in an order of its own.
			expect(t, "append", s.Append(l[(i*7+step)%len(l)], nil), api.OK)
		}
		for range 3 {
			if got := s.Names(); !slices.Equal(got, l) {
				t.Fatalf("%q", got)
			}
		}
	}
}

func TestKeepsAndChangesNothingHandedIn(t *testing.T) {
	s := file.New(20)
	room := []byte("abcdef")
	expect(t, "append", s.Append("a", room[:3]), api.OK)
	expect(t, "more", s.Append("a", []byte("x")), api.OK)
	if string(room) != "abcdef" {
		t.Errorf("handed in, and now %q", room)
	}
	clear(room)
	expectFile(t, s, "a", "abcx", 0)
	keep := []int{5, -1, 2}
	s.Crash(keep...)
	if !slices.Equal(keep, []int{5, -1, 2}) {
		t.Error(keep)
	}
}

func TestAnswersAreNewMemory(t *testing.T) {
	s := stocked(t)
	was := told(s)
	b, _ := s.Read("a")
	x, _ := s.Read("a")
	clear(b[:cap(b)])
	_ = append(b[:0], "123456789"...)
	if string(x) != "abcdef" {
		t.Errorf("two answers share bytes: %q", x)
	}
	l, m := s.Names(), s.Names()
	clear(l)
	if !slices.Equal(m, []string{"a", "b", "c"}) {
		t.Errorf("two answers share names: %q", m)
	}
	if is := told(s); is != was {
		t.Errorf("it was %s, and is %s", was, is)
	}
	// What is read stays as it is, whatever becomes of the file.
	expect(t, "cut", s.Cut("a", 1), api.OK)
	expect(t, "append", s.Append("a", []byte("12345")), api.OK)
	if string(x) != "abcdef" {
		t.Errorf("read, and now %q", x)
	}
}
