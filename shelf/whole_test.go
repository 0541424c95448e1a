package shelf_test

import (
	"fmt"
	"math"
	"slices"
	"strings"
	"testing"

	"flipbook/api"
	"flipbook/file"
	"flipbook/shelf"
)

// A dice tells numbers that look like chance.
type dice uint64

// upTo: from 0 on, below n.
func (d *dice) upTo(n int) int {
	*d = *d*6364136223846793005 + 1442695040888963407
	return int(uint64(*d) >> 33 % uint64(n))
}

func pick[T any](d *dice, l []T) T { return l[d.upTo(len(l))] }

// plainSave: the chapter's changes, one behind the other.
func plainSave(s *file.Store, name string, b []byte) api.Errno {
	if name == "" || len(name) > 12 || name == "~" {
		return api.ErrArg
	}
	changes := []func() api.Errno{
		func() api.Errno { return plainSweep(s) },
		func() api.Errno { return s.Append("~", b) },
		func() api.Errno { return s.Sync("~") },
		func() api.Errno { return s.Rename("~", name) },
	}
	for _, change := range changes {
		if e := change(); e != api.OK {
			s.Delete("~")
			return e
		}
	}
	return api.OK
}

func plainSweep(s *file.Store) api.Errno {
	for _, name := range s.Names() {
		if name == "~" {
			return s.Delete("~")
		}
	}
	return api.OK
}

func plainNames(s *file.Store) []string {
	var l []string
	for _, name := range s.Names() {
		if name != "~" {
			l = append(l, name)
		}
	}
	return l
}

// A call on a store or on its shelf, with all that it may be handed.
type call struct {
	kind, name, to, bytes string
	n                     int
	keep                  []int
}

// do: a call as the shelf has it, or in the plain way.
func (c call) do(s *file.Store, plain bool) api.Errno {
	switch c.kind {
	case "save":
		if plain {
			return plainSave(s, c.name, []byte(c.bytes))
		}
		return shelf.Save(s, c.name, []byte(c.bytes))
	case "sweep":
		if plain {
			return plainSweep(s)
		}
		return shelf.Sweep(s)
	case "append":
		return s.Append(c.name, []byte(c.bytes))
	case "sync":
		return s.Sync(c.name)
	case "rename":
		return s.Rename(c.name, c.to)
	case "delete":
		return s.Delete(c.name)
	case "cut":
		return s.Cut(c.name, c.n)
	case "fuse":
		s.Fuse(c.n)
	case "crash":
		s.Crash(c.keep...)
	}
	return api.OK
}

var names = []string{"a", "b", "~", "~~", "}", "\x7F", "123456789012", "1234567890123", ""}

func someCall(d *dice) call {
	kinds := []string{"save", "save", "save", "save", "save", "sweep", "append", "append", "sync", "rename", "delete", "cut", "fuse", "fuse", "crash", "crash"}
	numbers := []int{math.MinInt64, -1, 0, 1, 2, 3, 4, 5, 9, math.MaxInt64}
	// Scratch more often than the others, that it be there.
	c := call{kind: pick(d, kinds), name: pick(d, append([]string{"~", "~", "a"}, names...)), to: pick(d, append([]string{"~"}, names...)), n: pick(d, numbers)}
	if c.kind == "save" && d.upTo(3) > 0 {
		c.name = pick(d, []string{"a", "b", "~~"})
	}
	c.bytes = "abcdefghijklmnopqrstuvwxyz"[:pick(d, []int{0, 1, 2, 3, 4, 5, 6, 9, 20})]
	for range d.upTo(6) {
		c.keep = append(c.keep, pick(d, numbers))
	}
	return c
}

// Each call, and what a store tells behind it, held against the plain way on a second store of the same beginnings.
func TestAgainstThePlainWay(t *testing.T) {
	for seed := range 4000 {
		d := dice(seed)
		quota := pick(&d, []int{math.MinInt64, 0, 1, 5, 10, 20, 40, math.MaxInt64})
		s, x := file.New(quota), file.New(quota)
		for i := range 40 {
			c := someCall(&d)
			if got, want := c.do(s, false), c.do(x, true); got != want {
				t.Fatalf("seed %d, call %d, %+v: %d, want %d", seed, i, c, int(got), int(want))
			}
			if got, want := told(s), told(x); got != want {
				t.Fatalf("seed %d, call %d, %+v: %s, want %s", seed, i, c, got, want)
			}
			if got, want := shelf.Names(s), plainNames(x); !slices.Equal(got, want) {
				t.Fatalf("seed %d, call %d, %+v: %q, want %q", seed, i, c, got, want)
			}
		}
		// What a store that is down had, is seen behind the crash alone.
		keep := []int{all, all, all, all, all, all, all}
		s.Crash(keep...)
		x.Crash(keep...)
		if got, want := told(s), told(x); got != want {
			t.Fatalf("seed %d, at the end: %s, want %s", seed, got, want)
		}
	}
}

// saved: what each file was last saved as. Of a store on which nothing is done but Save, Sweep and crashes.
type saved map[string]string

// P19.2 and P2 over many Saves, one behind the other, with crashes between them: each file is as it was, or as the one Save has it that was under way.
func TestManySavesWithCrashes(t *testing.T) {
	for seed := range 1500 {
		d := dice(seed)
		s, was := file.New(30), saved{}
		for i := range 60 {
			what := fmt.Sprintf("seed %d, round %d", seed, i)
			if d.upTo(3) == 0 {
				s.Fuse(d.upTo(6))
			}
			name, now := pick(&d, []string{"a", "b", "c", "~~"}), fmt.Sprint(i, strings.Repeat("x", d.upTo(10)))
			e := shelf.Save(s, name, []byte(now))
			if e == api.OK {
				was[name] = now
			}
			expectSaved(t, what+", "+name, s, e, was, saved{name: now})
			if d.upTo(3) == 0 || !s.Up() {
				s.Crash(d.upTo(5), d.upTo(5), d.upTo(5), d.upTo(5), d.upTo(5))
				expectSaved(t, what+", behind a crash", s, e, was, saved{name: now})
			}
			if d.upTo(4) == 0 {
				expect(t, what, shelf.Sweep(s), api.OK)
			}
			if t.Failed() {
				return
			}
		}
	}
}

// expectSaved: all files that were saved, and no others; all of their bytes sure. Of the one that was refused there may be nothing new.
func expectSaved(t *testing.T, what string, s *file.Store, e api.Errno, was, now saved) {
	t.Helper()
	l := shelf.Names(s)
	if len(l) != len(was) {
		t.Errorf("%s: %d, names %q, where these were saved: %q (last %q)", what, int(e), l, was, now)
	}
	for _, name := range l {
		if s.Up() {
			b, f := s.Read(name)
			if f != api.OK || string(b) != was[name] {
				t.Errorf("%s: %q is %q (%d), and was saved as %q", what, name, b, int(f), was[name])
			}
		}
		if s.Sure(name) != len(was[name]) {
			t.Errorf("%s: of %q %d are sure, and it was saved as %q", what, name, s.Sure(name), was[name])
		}
	}
}

// What is sure of other files lasts, whatever is done by the shelf, and whatever they have that isn't sure.
func TestOtherFilesAreLeftAlone(t *testing.T) {
	for seed := range 3000 {
		d := dice(seed)
		s := stored(t, 40, "a:sure|loose ~~:|loose }:sure|")
		if d.upTo(2) == 0 {
			s.Append("~", []byte("left"))
		}
		other := []string{"a", "}", "~~"}
		bytes, sure := []string{"sureloose", "sure", "loose"}, []int{4, 4, 0}
		for range 8 {
			s.Fuse(d.upTo(12) - 1)
			if d.upTo(4) == 0 {
				shelf.Sweep(s)
			} else {
				shelf.Save(s, pick(&d, []string{"f", "g", "~", ""}), make([]byte, d.upTo(30)))
			}
			shelf.Names(s)
			for i, name := range other {
				b, e := s.Read(name)
				if s.Up() && (e != api.OK || string(b) != bytes[i]) || s.Sure(name) != sure[i] {
					t.Fatalf("seed %d: %q is %q (%d); %s", seed, name, b, int(e), told(s))
				}
			}
		}
		s.Crash()
		for i, name := range other {
			if b, e := s.Read(name); e != api.OK || string(b) != bytes[i][:sure[i]] {
				t.Fatalf("seed %d: behind the crash %q is %q (%d)", seed, name, b, int(e))
			}
		}
	}
}

// P0: the same calls have the same outcome.
func TestTheSameCallsHaveTheSameOutcome(t *testing.T) {
	for seed := range 300 {
		d, g := dice(seed), dice(seed)
		s, x := file.New(25), file.New(25)
		for i := range 60 {
			c, again := someCall(&d), someCall(&g)
			if e, f := c.do(s, false), again.do(x, false); e != f || told(s) != told(x) || !slices.Equal(shelf.Names(s), shelf.Names(x)) {
				t.Fatalf("seed %d, call %d, %+v: %d and %d, %s and %s", seed, i, c, int(e), int(f), told(s), told(x))
			}
		}
	}
}
