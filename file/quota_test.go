package file_test

import (
	"math"
	"strings"
	"testing"

	"flipbook/api"
	"flipbook/file"
)

func TestQuota(t *testing.T) {
	for _, quota := range []int{0, 1, 2, 10, 1000} {
		s := file.New(quota)
		full := []byte(strings.Repeat("x", quota))
		expectRefused(t, "one more than may be", s, func() api.Errno { return s.Append("a", append([]byte("y"), full...)) }, api.ErrFull)
		expectNoFile(t, s, "a")
		expect(t, "as many as may be", s.Append("a", full), api.OK)
		for _, name := range []string{"a", "b"} {
			expectRefused(t, "one behind them", s, func() api.Errno { return s.Append(name, []byte("y")) }, api.ErrFull)
		}
		expectNoFile(t, s, "b")
		expect(t, "none behind them", s.Append("b", nil), api.OK)
		expectFile(t, s, "b", "", 0)
		if s.Used() != quota {
			t.Errorf("quota %d: %d used", quota, s.Used())
		}
	}
}

func TestQuotaBelowNought(t *testing.T) {
	for _, quota := range []int{-1, -10, math.MinInt64} {
		s := file.New(quota)
		expectRefused(t, "a byte", s, func() api.Errno { return s.Append("a", []byte("x")) }, api.ErrFull)
		expect(t, "none", s.Append("a", nil), api.OK)
		expectFile(t, s, "a", "", 0)
	}
}

func TestQuotaOfTheGreatestNumber(t *testing.T) {
	s := file.New(math.MaxInt64)
	expect(t, "a", s.Append("a", make([]byte, 1<<20)), api.OK)
	expect(t, "b", s.Append("b", make([]byte, 1<<20)), api.OK)
	if s.Used() != 1<<21 {
		t.Error(s.Used())
	}
}

func TestQuotaIsOfAllFilesTogether(t *testing.T) {
	s := stocked(t)
	expectRefused(t, "twelve", s, func() api.Errno { return s.Append("d", make([]byte, 12)) }, api.ErrFull)
	expect(t, "eleven", s.Append("d", make([]byte, 11)), api.OK)
	expectRefused(t, "one", s, func() api.Errno { return s.Append("a", make([]byte, 1)) }, api.ErrFull)
}

// What files have no more is room again.
func TestRoomComesBack(t *testing.T) {
	for name, c := range map[string]struct {
		free func(s *file.Store) api.Errno
		room int
	}{
		"delete":                {func(s *file.Store) api.Errno { return s.Delete("a") }, 6},
		"cut":                   {func(s *file.Store) api.Errno { return s.Cut("a", 2) }, 4},
		"cut at nothing":        {func(s *file.Store) api.Errno { return s.Cut("a", -1) }, 6},
		"cut at all":            {func(s *file.Store) api.Errno { return s.Cut("a", 6) }, 0},
		"rename over a":         {func(s *file.Store) api.Errno { return s.Rename("b", "a") }, 6},
		"rename over b":         {func(s *file.Store) api.Errno { return s.Rename("a", "b") }, 3},
		"rename to a new name":  {func(s *file.Store) api.Errno { return s.Rename("a", "e") }, 0},
		"rename to its own":     {func(s *file.Store) api.Errno { return s.Rename("a", "a") }, 0},
		"sync":                  {func(s *file.Store) api.Errno { return s.Sync("b") }, 0},
		"crash":                 {func(s *file.Store) api.Errno { s.Crash(); return api.OK }, 17},
		"crash that keeps some": {func(s *file.Store) api.Errno { s.Crash(1, 2, 0, 10); return api.OK }, 4},
	} {
		s := stocked(t)
		expect(t, name, s.Append("d", make([]byte, 11)), api.OK)
		expect(t, name, c.free(s), api.OK)
		if s.Used() != 20-c.room {
			t.Errorf("%s: %d used, want %d", name, s.Used(), 20-c.room)
		}
		expectRefused(t, name, s, func() api.Errno { return s.Append("c", make([]byte, c.room+1)) }, api.ErrFull)
		expect(t, name, s.Append("c", make([]byte, c.room)), api.OK)
	}
}

// A file of as many bytes as there is room for can't be written beside the elder one.
func TestQuotaIsNoneTheGreaterForARenameThatFollows(t *testing.T) {
	s := file.New(10)
	expect(t, "the elder one", s.Append("a", make([]byte, 6)), api.OK)
	expectRefused(t, "the new one", s, func() api.Errno { return s.Append("b", make([]byte, 5)) }, api.ErrFull)
	expect(t, "a shorter one", s.Append("b", make([]byte, 4)), api.OK)
	expect(t, "rename", s.Rename("b", "a"), api.OK)
	expect(t, "room again", s.Append("b", make([]byte, 6)), api.OK)
}
