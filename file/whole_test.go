package file_test

import (
	"fmt"
	"math/rand"
	"slices"
	"strings"
	"testing"

	"flipbook/api"
	"flipbook/file"
)

// A call on a store, with all that it may be handed.
type call struct {
	kind     string
	name, to string
	bytes    string
	n        int
	keep     []int
}

// do: a call on the store, and what it answers.
func (c call) do(s *file.Store) api.Errno {
	switch c.kind {
	case "append":
		return s.Append(c.name, []byte(c.bytes))
	case "sync":
		return s.Sync(c.name)
	case "rename":
		return s.Rename(c.name, c.to)
	case "delete":
		return s.Delete(c.name)
	case "cut":
		return s.Cut(c.name, c.n)
	case "fuse":
		s.Fuse(c.n)
	case "crash":
		s.Crash(c.keep...)
	}
	return api.OK
}

// A model says the same as a store by the chapter's words, with its files in a list: each is its name, what is sure of it, and what isn't.
type model struct {
	files []modelFile
	quota int
	fused bool
	left  int
	down  bool
}

type modelFile struct{ name, sure, loose string }

func (m *model) find(name string) int {
	return slices.IndexFunc(m.files, func(f modelFile) bool { return f.name == name })
}

func (m *model) used() int {
	n := 0
	for _, f := range m.files {
		n += len(f.sure) + len(f.loose)
	}
	return n
}

// refusal: the error of a call on a store that is up, and stays so.
func (m *model) refusal(c call) api.Errno {
	switch {
	case c.kind == "append" && (c.name == "" || len(c.name) > 12):
		return api.ErrArg
	case c.kind == "append" && m.used()+len(c.bytes) > m.quota:
		return api.ErrFull
	case c.kind == "rename" && (c.to == "" || len(c.to) > 12):
		return api.ErrArg
	case c.kind != "append" && m.find(c.name) < 0:
		return api.ErrNone
	}
	return api.OK
}

func (m *model) do(c call) api.Errno {
	switch c.kind {
	case "fuse":
		m.fused, m.left = c.n >= 0, c.n
		return api.OK
	case "crash":
		m.crash(c.keep)
		return api.OK
	}
	if m.down {
		return api.ErrDown
	}
	if e := m.refusal(c); e != api.OK {
		return e
	}
	if m.fused && m.left == 0 {
		m.down = true
		return api.ErrDown
	}
	m.left--
	m.change(c)
	return api.OK
}

func (m *model) change(c call) {
	i := m.find(c.name)
	switch c.kind {
	case "append":
		if i < 0 {
			m.files = append(m.files, modelFile{name: c.name})
			slices.SortFunc(m.files, func(a, b modelFile) int { return strings.Compare(a.name, b.name) })
			i = m.find(c.name)
		}
		m.files[i].loose += c.bytes
	case "sync":
		m.files[i].sure += m.files[i].loose
		m.files[i].loose = ""
	case "rename":
		m.files = slices.DeleteFunc(m.files, func(f modelFile) bool { return f.name == c.to && c.to != c.name })
		m.files[m.find(c.name)].name = c.to
		slices.SortFunc(m.files, func(a, b modelFile) int { return strings.Compare(a.name, b.name) })
	case "delete":
		m.files = slices.Delete(m.files, i, i+1)
	case "cut":
		f := &m.files[i]
		n := max(c.n, 0)
		if n <= len(f.sure) {
			f.sure, f.loose = f.sure[:n], ""
		} else if n < len(f.sure)+len(f.loose) {
			f.loose = f.loose[:n-len(f.sure)]
		}
	}
}

func (m *model) crash(keep []int) {
	m.down, m.fused = false, false
	for i := range m.files {
		f := &m.files[i]
		for j := range f.loose {
			if i < len(keep) && j < keep[i] {
				f.sure += f.loose[j : j+1]
			}
		}
		f.loose = ""
	}
}

// names: those that calls are made with, wrong ones among them.
var names = []string{"a", "b", "~", "123456789012", "1234567890123", ""}

// differs: where the store tells otherwise than the model; empty, if nowhere.
func differs(s *file.Store, m *model) string {
	var all []string
	for _, f := range m.files {
		all = append(all, f.name)
	}
	if s.Up() == m.down || s.Used() != m.used() || !slices.Equal(s.Names(), all) {
		return fmt.Sprintf("%s, want down %v, used %d, names %q", told(s), m.down, m.used(), all)
	}
	if s.Used() > m.quota {
		return fmt.Sprintf("%d used, where %d may be", s.Used(), m.quota)
	}
	for _, name := range names {
		want, sure, text := api.ErrNone, 0, ""
		if i := m.find(name); i >= 0 {
			want, sure, text = api.OK, len(m.files[i].sure), m.files[i].sure+m.files[i].loose
		}
		if m.down {
			want, text = api.ErrDown, ""
		}
		b, e := s.Read(name)
		if e != want || string(b) != text || s.Sure(name) != sure {
			return fmt.Sprintf("%q: %q (%d), %d sure, want %q (%d), %d", name, b, int(e), s.Sure(name), text, int(want), sure)
		}
	}
	return ""
}

// run: the calls, one behind the other, on a store and on a model; the first difference.
func run(quota int, calls []call) string {
	s, m := file.New(quota), &model{quota: max(quota, 0)}
	for i, c := range calls {
		if got, want := c.do(s), m.do(c); got != want {
			return fmt.Sprintf("call %d, %+v: %d, want %d", i, c, int(got), int(want))
		}
		if d := differs(s, m); d != "" {
			return fmt.Sprintf("behind call %d, %+v: %s", i, c, d)
		}
	}
	return ""
}

// All rows of five of these calls.
func TestShortRowsOfCalls(t *testing.T) {
	l := []call{
		{kind: "append", name: "a", bytes: "12"}, {kind: "append", name: "b", bytes: "345"}, {kind: "append", name: "b"},
		{kind: "sync", name: "a"}, {kind: "rename", name: "a", to: "b"}, {kind: "rename", name: "b", to: "b"}, {kind: "delete", name: "b"},
		{kind: "cut", name: "a", n: 1}, {kind: "fuse", n: 1}, {kind: "fuse", n: -1}, {kind: "crash", keep: []int{1, 2}},
	}
	count := len(l) * len(l) * len(l) * len(l) * len(l)
	for i := range count {
		var row []call
		for rest := i; len(row) < 5; rest /= len(l) {
			row = append(row, l[rest%len(l)])
		}
		if d := run(6, row); d != "" {
			t.Fatalf("%+v: %s", row, d)
		}
	}
}

// someCall: any call, wrong ones among them.
func someCall(r *rand.Rand) call {
	numbers := []int{-1 << 63, -3, -1, 0, 1, 2, 3, 5, 8, 20, 1<<63 - 1}
	c := call{name: names[r.Intn(len(names))], to: names[r.Intn(len(names))], n: numbers[r.Intn(len(numbers))]}
	for range r.Intn(12) {
		c.bytes += string(rune('a' + r.Intn(26)))
	}
	for range r.Intn(7) {
		c.keep = append(c.keep, numbers[r.Intn(len(numbers))])
	}
	kinds := []string{"append", "append", "append", "append", "sync", "sync", "rename", "rename", "delete", "cut", "fuse", "crash", "crash"}
	c.kind = kinds[r.Intn(len(kinds))]
	return c
}

func someCalls(seed int64) []call {
	r := rand.New(rand.NewSource(seed))
	l := make([]call, 60)
	for i := range l {
		l[i] = someCall(r)
	}
	return l
}

func TestLongRowsOfCalls(t *testing.T) {
	for seed := range int64(3000) {
		for _, quota := range []int{-1, 0, 10, 60} {
			if d := run(quota, someCalls(seed)); d != "" {
				t.Fatalf("seed %d, quota %d: %s", seed, quota, d)
			}
		}
	}
}

// P4.2, told of by nothing but the calls' answers: what was sure of a file is what it begins with, in whatever crash.
func TestWhatIsSureLastsInLongRows(t *testing.T) {
	for seed := range int64(1000) {
		s, sure := file.New(60), map[string]string{}
		for i, c := range someCalls(seed) {
			if c.do(s) == api.OK {
				noteSure(s, c, sure)
			}
			for name, text := range sure {
				if b, e := s.Read(name); e != api.ErrDown && (e != api.OK || !strings.HasPrefix(string(b), text)) {
					t.Fatalf("seed %d, call %d, %+v: %q has %q (%d), where %q was sure", seed, i, c, name, b, int(e), text)
				}
				if s.Sure(name) != len(text) {
					t.Fatalf("seed %d, call %d, %+v: %d of %q sure, where %q was", seed, i, c, s.Sure(name), name, text)
				}
			}
		}
	}
}

// noteSure: what is sure behind a call that was OK.
func noteSure(s *file.Store, c call, sure map[string]string) {
	switch c.kind {
	case "append":
		sure[c.name] += ""
	case "sync":
		b, _ := s.Read(c.name)
		sure[c.name] = string(b)
	case "rename":
		text := sure[c.name]
		delete(sure, c.name)
		sure[c.to] = text
	case "delete":
		delete(sure, c.name)
	case "cut":
		sure[c.name] = sure[c.name][:min(max(c.n, 0), len(sure[c.name]))]
	case "crash":
		for _, name := range s.Names() {
			b, _ := s.Read(name)
			if strings.HasPrefix(string(b), sure[name]) {
				sure[name] = string(b)
			}
		}
	}
}

// P0: the same calls have the same outcome.
func TestTheSameCallsHaveTheSameOutcome(t *testing.T) {
	for seed := range int64(300) {
		s, x := file.New(60), file.New(60)
		for i, c := range someCalls(seed) {
			if e, f := c.do(s), c.do(x); e != f || told(s) != told(x) {
				t.Fatalf("seed %d, call %d, %+v: %d and %d, %s and %s", seed, i, c, int(e), int(f), told(s), told(x))
			}
		}
	}
}
