package shelf_test

import (
	"fmt"
	"strings"
	"testing"

	"flipbook/api"
	"flipbook/shelf"
)

// A fused row: a Save with a fuse, what it answers, which files there are then, whether it is down, and else how many changes are left.
type fusedRow struct {
	fuse   int
	answer api.Errno
	down   bool
	left   int
	behind string
}

// fusedSaves: of a store of 12 bytes, newer saved as f, with the file there or not, with scratch or not.
func fusedSaves() map[string][]fusedRow {
	return map[string][]fusedRow{
		"g:g|h": {
			{0, api.ErrDown, true, 0, "g:g|h"},
			{1, api.ErrDown, true, 0, "g:g|h ~:|newer"},
			{2, api.ErrDown, true, 0, "g:g|h ~:newer|"},
			{3, api.OK, false, 0, "f:newer| g:g|h"},
			{4, api.OK, false, 1, "f:newer| g:g|h"},
			{-1, api.OK, false, -1, "f:newer| g:g|h"},
		},
		"f:o|ld g:g|h": {
			{0, api.ErrDown, true, 0, "f:o|ld g:g|h"},
			{1, api.ErrDown, true, 0, "f:o|ld g:g|h ~:|newer"},
			{2, api.ErrDown, true, 0, "f:o|ld g:g|h ~:newer|"},
			{3, api.OK, false, 0, "f:newer| g:g|h"},
			{4, api.OK, false, 1, "f:newer| g:g|h"},
			{-1, api.OK, false, -1, "f:newer| g:g|h"},
		},
		"g:g|h ~:s|tu": {
			{0, api.ErrDown, true, 0, "g:g|h ~:s|tu"},
			{1, api.ErrDown, true, 0, "g:g|h"},
			{2, api.ErrDown, true, 0, "g:g|h ~:|newer"},
			{3, api.ErrDown, true, 0, "g:g|h ~:newer|"},
			{4, api.OK, false, 0, "f:newer| g:g|h"},
			{5, api.OK, false, 1, "f:newer| g:g|h"},
			{-1, api.OK, false, -1, "f:newer| g:g|h"},
		},
		"f:o|ld g:g|h ~:s|tu": {
			{0, api.ErrDown, true, 0, "f:o|ld g:g|h ~:s|tu"},
			{1, api.ErrDown, true, 0, "f:o|ld g:g|h"},
			{2, api.ErrDown, true, 0, "f:o|ld g:g|h ~:|newer"},
			{3, api.ErrDown, true, 0, "f:o|ld g:g|h ~:newer|"},
			{4, api.OK, false, 0, "f:newer| g:g|h"},
			{5, api.OK, false, 1, "f:newer| g:g|h"},
			{-1, api.OK, false, -1, "f:newer| g:g|h"},
		},
		// With no room for it: that is told once it comes to it, and counts for no fuse; nor does the scratch that isn't there to be taken away.
		"f:ol|d g:gggg|h": {
			{0, api.ErrFull, false, 0, "f:ol|d g:gggg|h"},
			{1, api.ErrFull, false, 1, "f:ol|d g:gggg|h"},
			{2, api.ErrFull, false, 2, "f:ol|d g:gggg|h"},
			{-1, api.ErrFull, false, -1, "f:ol|d g:gggg|h"},
		},
		"f:ol|d g:gggg|h ~:s|t": {
			{0, api.ErrDown, true, 0, "f:ol|d g:gggg|h ~:s|t"},
			{1, api.ErrFull, false, 0, "f:ol|d g:gggg|h"},
			{2, api.ErrFull, false, 1, "f:ol|d g:gggg|h"},
			{-1, api.ErrFull, false, -1, "f:ol|d g:gggg|h"},
		},
	}
}

func TestSaveWithEachFuse(t *testing.T) {
	for laid, rows := range fusedSaves() {
		for _, c := range rows {
			what := fmt.Sprintf("%q, fuse %d", laid, c.fuse)
			s := stored(t, 12, laid)
			s.Fuse(c.fuse)
			expect(t, what, shelf.Save(s, "f", []byte("newer")), c.answer)
			if s.Up() == c.down {
				t.Errorf("%s: up %v", what, s.Up())
			}
			expectFiles(t, what, s, c.behind)
			if !c.down {
				expectLeft(t, what, s, c.left)
			}
		}
	}
}

// lasting: the files that there are behind a crash which keeps so many bytes of each that aren't sure.
func lasting(files string, keep int) string {
	var l []string
	for _, f := range strings.Fields(files) {
		sure, loose, _ := strings.Cut(f, "|")
		l = append(l, sure+loose[:min(keep, len(loose))]+"|")
	}
	return strings.Join(l, " ")
}

// Behind each fuse a crash that keeps nothing, some, all.
func TestCrashBehindEachFuse(t *testing.T) {
	for laid, rows := range fusedSaves() {
		for _, c := range rows {
			for _, keep := range []int{0, 1, 2, 3, 4, 5, all} {
				what := fmt.Sprintf("%q, fuse %d, keep %d", laid, c.fuse, keep)
				s := stored(t, 12, laid)
				s.Fuse(c.fuse)
				expect(t, what, shelf.Save(s, "f", []byte("newer")), c.answer)
				s.Crash(keep, keep, keep, keep)
				expectFiles(t, what, s, lasting(c.behind, keep))
				// What is left over is swept, and the next Save goes its way.
				expect(t, what, shelf.Sweep(s), api.OK)
				expectFiles(t, what, s, withoutScratch(lasting(c.behind, keep)))
				expect(t, what, shelf.Save(s, "g", nil), api.OK)
			}
		}
	}
}

func withoutScratch(files string) string {
	before, _, _ := strings.Cut(files, "~:")
	return strings.TrimSuffix(before, " ")
}

// A few of these crashes, written out: of what was saved over a file that is partly sure.
func TestCrashWithinSaveOfLiterals(t *testing.T) {
	for _, c := range []struct {
		fuse   int
		keep   []int
		behind string
	}{
		{0, nil, "f:o| g:g| ~:s|"},
		{0, []int{1, 0, 2}, "f:ol| g:g| ~:stu|"},
		{0, []int{9, 9, 9}, "f:old| g:gh| ~:stu|"},
		{1, nil, "f:o| g:g|"},
		{1, []int{9, 9, 9}, "f:old| g:gh|"},
		{2, nil, "f:o| g:g| ~:|"},
		{2, []int{0, 0, 3}, "f:o| g:g| ~:new|"},
		{2, []int{9, 9, 9}, "f:old| g:gh| ~:newer|"},
		{3, nil, "f:o| g:g| ~:newer|"},
		{3, []int{1, 1, 0}, "f:ol| g:gh| ~:newer|"},
		{4, nil, "f:newer| g:g|"},
		{4, []int{0, 1, 0}, "f:newer| g:gh|"},
		{5, nil, "f:newer| g:g|"},
	} {
		s := stored(t, 12, "f:o|ld g:g|h ~:s|tu")
		s.Fuse(c.fuse)
		shelf.Save(s, "f", []byte("newer"))
		s.Crash(c.keep...)
		expectFiles(t, fmt.Sprintf("fuse %d, keep %d", c.fuse, c.keep), s, c.behind)
	}
}

// P19.2, of each fuse, of sizes elder and new, and of each number of bytes that lasts: the file of that name is as it was, or has just the new bytes.
func TestFileIsAsItWasOrNew(t *testing.T) {
	for _, scratch := range []string{"", " ~:xyz|", " ~:|xyz", " ~:x|yz"} {
		for old := range 4 {
			for size := range 5 {
				for fuse := range 7 {
					for keep := range 6 {
						wholeOrAsItWas(t, scratch, "old"[:old], "12345"[:size], fuse, keep)
					}
				}
			}
		}
	}
}

func wholeOrAsItWas(t *testing.T, scratch, old, now string, fuse, keep int) {
	t.Helper()
	what := fmt.Sprintf("%q over %q, scratch %q, fuse %d, keep %d", now, old, scratch, fuse, keep)
	s := stored(t, 30, "e:ee|e f:"+old+"| z:z|"+scratch)
	s.Fuse(fuse)
	e := shelf.Save(s, "f", []byte(now))
	s.Crash(0, 0, keep, keep)
	b, f := s.Read("f")
	if f != api.OK || string(b) != now && string(b) != old || e == api.OK && string(b) != now || s.Sure("f") != len(b) {
		t.Errorf("%s: answered %d; %s", what, int(e), told(s))
	}
	for _, other := range []struct{ name, bytes string }{{"e", "ee"}, {"z", "z"}} {
		if b, f := s.Read(other.name); f != api.OK || string(b) != other.bytes {
			t.Errorf("%s: %s is %q, %d", what, other.name, b, int(f))
		}
	}
}
