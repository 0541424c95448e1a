package file_test

import (
	"math"
	"slices"
	"testing"

	"flipbook/api"
	"flipbook/file"
)

// changes: calls that are changes on a stocked store, whichever of them are done ahead; some of them make nothing other than it was.
func changes() map[string]func(s *file.Store) api.Errno {
	return map[string]func(s *file.Store) api.Errno{
		"append":            func(s *file.Store) api.Errno { return s.Append("d", []byte("x")) },
		"append of nothing": func(s *file.Store) api.Errno { return s.Append("a", nil) },
		"sync":              func(s *file.Store) api.Errno { return s.Sync("a") },
		"sync of nothing":   func(s *file.Store) api.Errno { return s.Sync("c") },
		"rename":            func(s *file.Store) api.Errno { s.Append("e", nil); return s.Rename("e", "f") },
		"rename to its own": func(s *file.Store) api.Errno { return s.Rename("a", "a") },
		"delete":            func(s *file.Store) api.Errno { s.Append("e", nil); return s.Delete("e") },
		"cut":               func(s *file.Store) api.Errno { return s.Cut("a", 5) },
		"cut at all":        func(s *file.Store) api.Errno { return s.Cut("a", 100) },
	}
}

// noChanges: calls that are none, and what they answer.
func noChanges() map[string]func(s *file.Store) (api.Errno, api.Errno) {
	return map[string]func(s *file.Store) (api.Errno, api.Errno){
		"append to no name":   func(s *file.Store) (api.Errno, api.Errno) { return s.Append("", nil), api.ErrArg },
		"append of too many":  func(s *file.Store) (api.Errno, api.Errno) { return s.Append("a", make([]byte, 21)), api.ErrFull },
		"sync of none":        func(s *file.Store) (api.Errno, api.Errno) { return s.Sync("none"), api.ErrNone },
		"rename to no name":   func(s *file.Store) (api.Errno, api.Errno) { return s.Rename("a", "1234567890123"), api.ErrArg },
		"rename of none":      func(s *file.Store) (api.Errno, api.Errno) { return s.Rename("none", "a"), api.ErrNone },
		"delete of none":      func(s *file.Store) (api.Errno, api.Errno) { return s.Delete("none"), api.ErrNone },
		"cut of none":         func(s *file.Store) (api.Errno, api.Errno) { return s.Cut("none", 0), api.ErrNone },
		"read":                func(s *file.Store) (api.Errno, api.Errno) { _, e := s.Read("a"); return e, api.OK },
		"read of none":        func(s *file.Store) (api.Errno, api.Errno) { _, e := s.Read("none"); return e, api.ErrNone },
		"up, sure, names, ..": func(s *file.Store) (api.Errno, api.Errno) { told(s); return api.OK, api.OK },
	}
}

// expectDown: the store is down, and the six calls answer so, whatever they are asked.
func expectDown(t *testing.T, s *file.Store) {
	t.Helper()
	if s.Up() {
		t.Error("it is up")
	}
	was := told(s)
	for _, name := range []string{"a", "b", "c", "none", "", "1234567890123"} {
		b, e := s.Read(name)
		if e != api.ErrDown || len(b) != 0 {
			t.Errorf("read of %q: %q, %d", name, b, int(e))
		}
		expect(t, "append", s.Append(name, nil), api.ErrDown)
		expect(t, "append", s.Append(name, []byte("x")), api.ErrDown)
		expect(t, "append of too many", s.Append(name, make([]byte, 1000)), api.ErrDown)
		expect(t, "sync", s.Sync(name), api.ErrDown)
		expect(t, "delete", s.Delete(name), api.ErrDown)
		expect(t, "cut", s.Cut(name, 1), api.ErrDown)
		for _, to := range []string{"a", "d", "", "1234567890123", name} {
			expect(t, "rename", s.Rename(name, to), api.ErrDown)
		}
	}
	if is := told(s); is != was {
		t.Errorf("it was %s, and is %s", was, is)
	}
}

func TestFuseOfTheExample(t *testing.T) {
	s := stocked(t)
	s.Fuse(0)
	expect(t, "the next change", s.Append("a", []byte("x")), api.ErrDown)
	s.Crash(100)
	expectFile(t, s, "a", "abcdef", 6)
}

func TestFuseOfNoughtAndEachChange(t *testing.T) {
	for _, c := range []struct {
		name string
		call func(s *file.Store) api.Errno
	}{
		{"append", func(s *file.Store) api.Errno { return s.Append("a", []byte("x")) }},
		{"append to a new file", func(s *file.Store) api.Errno { return s.Append("d", []byte("x")) }},
		{"append of nothing", func(s *file.Store) api.Errno { return s.Append("d", nil) }},
		{"sync", func(s *file.Store) api.Errno { return s.Sync("a") }},
		{"rename", func(s *file.Store) api.Errno { return s.Rename("a", "d") }},
		{"rename over another", func(s *file.Store) api.Errno { return s.Rename("a", "b") }},
		{"rename to its own", func(s *file.Store) api.Errno { return s.Rename("a", "a") }},
		{"delete", func(s *file.Store) api.Errno { return s.Delete("a") }},
		{"cut", func(s *file.Store) api.Errno { return s.Cut("a", 1) }},
		{"cut at all", func(s *file.Store) api.Errno { return s.Cut("a", 100) }},
	} {
		s := stocked(t)
		s.Fuse(0)
		if !s.Up() {
			t.Errorf("%s: down ahead of it", c.name)
		}
		expectFile(t, s, "a", "abcdef", 3)
		expect(t, c.name, c.call(s), api.ErrDown)
		expectDown(t, s)
		// These are told of a store that is down, too: as they were.
		if s.Used() != 9 || s.Sure("a") != 3 || s.Sure("b") != 0 || s.Sure("none") != 0 || !slices.Equal(s.Names(), []string{"a", "b", "c"}) {
			t.Errorf("%s: %s", c.name, told(s))
		}
		s.Crash(100, 100, 100)
		expectFile(t, s, "a", "abcdef", 6)
		expectFile(t, s, "b", "xyz", 3)
		expectFile(t, s, "c", "", 0)
	}
}

func TestFuseCountsChanges(t *testing.T) {
	for n := range 20 {
		s := stocked(t)
		s.Fuse(n)
		for i := range n {
			if e := s.Append("a", nil); e != api.OK || !s.Up() {
				t.Fatalf("fuse %d, change %d: %d", n, i, int(e))
			}
		}
		expect(t, "one more", s.Append("a", nil), api.ErrDown)
		expectDown(t, s)
	}
}

// Each change counts as one, those that make nothing other than it was, too.
func TestFuseCountsEachKindOfChange(t *testing.T) {
	for name, call := range changes() {
		s := stocked(t)
		expect(t, name, call(s), api.OK)
		// rename and delete need a file of their own to be made ahead: two changes.
		n := 1
		if name == "rename" || name == "delete" {
			n = 2
		}
		s.Fuse(n)
		expect(t, name, call(s), api.OK)
		if !s.Up() {
			t.Errorf("%s: down", name)
		}
		expect(t, name, s.Sync("a"), api.ErrDown)
		expectDown(t, s)
	}
}

func TestFuseDoesNotCountWhatIsNoChange(t *testing.T) {
	for name, call := range noChanges() {
		for _, fuse := range []int{0, 1, 2} {
			s := stocked(t)
			s.Fuse(fuse)
			for range 5 {
				got, want := call(s)
				expect(t, name, got, want)
			}
			for range fuse {
				expect(t, name, s.Sync("a"), api.OK)
				got, want := call(s)
				expect(t, name, got, want)
			}
			if !s.Up() {
				t.Errorf("%s: down", name)
			}
			expect(t, name, s.Sync("a"), api.ErrDown)
			expectDown(t, s)
		}
	}
}

func TestFuseSetAnew(t *testing.T) {
	s := stocked(t)
	s.Fuse(0)
	s.Fuse(2)
	expect(t, "first", s.Sync("a"), api.OK)
	s.Fuse(2)
	expect(t, "first of the new one", s.Sync("a"), api.OK)
	expect(t, "second of the new one", s.Sync("a"), api.OK)
	s.Fuse(1)
	expect(t, "one of the last one", s.Sync("a"), api.OK)
	expect(t, "one more", s.Sync("a"), api.ErrDown)
	expectDown(t, s)
	x := stocked(t)
	x.Fuse(100)
	x.Fuse(0)
	expect(t, "the lesser one", x.Sync("a"), api.ErrDown)
}

func TestFuseBelowNoughtIsNone(t *testing.T) {
	for _, n := range []int{-1, -2, math.MinInt64} {
		s := stocked(t)
		s.Fuse(0)
		s.Fuse(n)
		for range 100 {
			expect(t, "a change", s.Sync("a"), api.OK)
		}
		x := stocked(t)
		x.Fuse(n)
		for range 100 {
			expect(t, "a change", x.Sync("a"), api.OK)
		}
	}
}

func TestFuseOfTheGreatestNumber(t *testing.T) {
	s := stocked(t)
	s.Fuse(math.MaxInt64)
	for range 100 {
		expect(t, "a change", s.Sync("a"), api.OK)
	}
}

func TestFuseDoesNotRaiseAStoreThatIsDown(t *testing.T) {
	for _, n := range []int{-1, 0, 1, 5, math.MaxInt64, math.MinInt64} {
		s := stocked(t)
		s.Fuse(0)
		expect(t, "down", s.Sync("a"), api.ErrDown)
		s.Fuse(n)
		expectDown(t, s)
		// And the crash behind it takes the fuse away.
		s.Crash()
		for range 10 {
			expect(t, "a change behind the crash", s.Sync("a"), api.OK)
		}
	}
}

func TestErrorsAheadOfTheFuse(t *testing.T) {
	for name, call := range noChanges() {
		s := stocked(t)
		s.Fuse(0)
		got, want := call(s)
		expect(t, name, got, want)
		if !s.Up() {
			t.Errorf("%s: down", name)
		}
		expectFile(t, s, "a", "abcdef", 3)
	}
}
