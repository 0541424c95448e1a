package log_test

import (
	"slices"
	"strings"
	"testing"

	"flipbook/api"
	"flipbook/file"
	"flipbook/log"
	"flipbook/state"
	"flipbook/term"
)

// A run goes through steps with one file, till the store is down: c creates, a adds, s syncs, f finishes, v recovers, r resumes.
type run struct {
	s      *file.Store
	w      *log.Writer
	start  string
	events []api.Event // that were added, or tried at last
	okay   int         // how many of them were added
	sure   int         // how many were added ahead of the last Sync that was OK
	begun  bool        // whether the beginning was there ahead of such a Sync
}

func (r *run) step(t *testing.T, c rune) bool {
	t.Helper()
	var e api.Errno
	switch c {
	case 'c':
		r.w, e = log.Create(r.s, "a", term.New(3, 2))
		r.start = string(state.Encode(term.New(3, 2)))
	case 'a':
		x := eightsOf(r.okay + 1).events[r.okay]
		x.Time = r.okay
		r.events = append(r.events[:r.okay:r.okay], x)
		e = r.w.Add(x)
		if e == api.OK {
			r.okay++
		}
		if (e == api.ErrFull) != r.w.Dead() || e != api.OK && e != api.ErrFull || r.s.Up() != (e == api.OK) {
			t.Fatalf("add: %d, dead %v", int(e), r.w.Dead())
		}
	case 's':
		e = r.w.Sync()
	case 'f':
		e = r.w.Finish()
	case 'v':
		_, e = log.Recover(r.s, "a")
	case 'r':
		r.w, e = log.Resume(r.s, "a")
		if (r.w != nil) != (e == api.OK) {
			t.Fatalf("resumed: %v, %d", r.w, int(e))
		}
	}
	if strings.ContainsRune("sfvr", c) && e == api.OK {
		r.sure, r.begun = r.okay, true
	}
	return e == api.OK
}

// steps goes as far as the store is up.
func (r *run) steps(t *testing.T, l string) {
	t.Helper()
	for _, c := range l {
		if !r.step(t, c) {
			if r.s.Up() {
				t.Fatalf("%s: %c was refused by a store that is up", l, c)
			}
			return
		}
	}
}

// expectSome: behind a crash, the file's recording has all events that were sure, and of the others some, from the first one on. false: the file has no beginning.
func (r *run) expectSome(t *testing.T, what string) bool {
	t.Helper()
	b, _ := r.s.Read("a")
	found, n, e := log.Rescue(b)
	if e != api.OK {
		if r.begun {
			t.Fatalf("%s: the beginning was sure, and isn't there: % X", what, b)
		}
		return false
	}
	k := len(found.Events)
	if k < r.sure || k > len(r.events) || !slices.Equal(found.Events, r.events[:k]) || string(found.Start) != r.start {
		t.Fatalf("%s: %v of %v, %d sure", what, found.Events, r.events, r.sure)
	}
	if string(found.Encode(false)) != string(b[:n]) {
		t.Fatalf("%s: other bytes", what)
	}
	return true
}

// goesOn: the file is recovered, and a writer goes on behind it, with keys behind each eighth event of all.
func (r *run) goesOn(t *testing.T, what string) {
	t.Helper()
	b, _ := r.s.Read("a")
	m, n := rescued(string(b))
	found, e := log.Recover(r.s, "a")
	expect(t, what+": recover", e, api.OK)
	expectRec(t, what+": recovered", found, m)
	expectFile(t, what+": recovered", r.s, "a", string(b[:n]), n)
	w, e := log.Resume(r.s, "a")
	expect(t, what+": resume", e, api.OK)
	expectRec(t, what+": resumed", &w.Rec, m)
	expectFile(t, what+": resumed", r.s, "a", string(b[:n]), n)
	for i := range 9 {
		m.events = append(m.events, api.Event{Time: 100 + i, Data: "\nq"})
		if len(m.events)%8 == 0 {
			m.keys = append(m.keys, len(m.events))
		}
	}
	addAll(t, w, m.events[len(m.events)-9:])
	expect(t, what+": sync", w.Sync(), api.OK)
	expectRec(t, what+": gone on", &w.Rec, m)
	r.s.Crash()
	expectFile(t, what+": gone on", r.s, "a", m.bytes(), len(m.bytes()))
	again, e := log.Recover(r.s, "a")
	expect(t, what+": recover again", e, api.OK)
	expectRec(t, what+": recovered again", again, m)
}

func rows() []string {
	return []string{
		"c", "cs", "csa", "caaas", "caasaaasa", "caaaaaaa", "caaaaaaaa", "casaaaaaaaasaaa", "csaaaaaaaaaaaaaaaaaa", "caaaaaaasaasaaaaaaas",
		"cf", "caaaf", "csaaaaaaaaf", "caaavaa", "caaaraaaaaara", "caaafraaaaaaf", "caaafvraasaaaf", "crararararararararasaaf",
	}
}

// P13.3, with a fuse between any two changes, and behind it a crash that keeps any part of what wasn't sure.
func TestBehindWhateverCrash(t *testing.T) {
	for _, l := range rows() {
		for fuse := 0; ; fuse++ {
			first := run{s: file.New(plenty)}
			first.s.Fuse(fuse)
			first.steps(t, l)
			for keep := range first.s.Used() - first.s.Sure("a") + 2 {
				r := run{s: file.New(plenty)}
				r.s.Fuse(fuse)
				r.steps(t, l)
				r.s.Crash(keep)
				what := l + " with a fuse"
				if r.expectSome(t, what) && keep%7 == 0 {
					r.goesOn(t, what)
				}
			}
			if first.s.Up() {
				break
			}
		}
	}
}

// A crash within Recover and Resume, behind a crash: another one comes to the same.
func TestCrashesWithinRecover(t *testing.T) {
	for _, l := range []string{"caaa", "casaaaaaaaaaa", "caaaaaaaaaf", "casaaafraaaa"} {
		for keep := 0; keep < 300; keep++ {
			for fuse := range 2 {
				for _, step := range "vr" {
					r := run{s: file.New(plenty)}
					r.steps(t, l)
					r.s.Crash(keep)
					b, _ := r.s.Read("a")
					m, n := rescued(string(b))
					if n == 0 {
						continue
					}
					r.sure, r.begun = len(m.events), true
					r.s.Fuse(fuse)
					if r.step(t, step) {
						t.Fatal("no fuse was there")
					}
					r.s.Crash(keep % 5)
					r.expectSome(t, l)
					if got, _ := r.s.Read("a"); fuse == 0 && string(got) != string(b) || fuse == 1 && string(got) != string(b[:n]) {
						t.Fatalf("%s: the file became % X", l, got)
					}
					if keep%11 == 0 {
						r.goesOn(t, l)
					}
				}
			}
		}
	}
}

// torn: bytes behind a whole recording that may not stand there.
func torn(m model) []string {
	all := m.bytes()
	return []string{"", "\x00", "x", "\x05E\x00", all, all[:len(all)-1], frame(""), frame("E"), m.index(), m.index() + "x", m.index()[:3], strings.Repeat("\xFF", 20), frame("S" + m.start)}
}

func TestRecoverAndResume(t *testing.T) {
	for _, n := range []int{0, 1, 7, 8, 9, 16, 17} {
		m := eightsOf(n)
		for _, behind := range torn(m) {
			for _, synced := range []bool{false, true} {
				s := file.New(plenty)
				expect(t, "append", s.Append("a", []byte(m.bytes()+behind)), api.OK)
				if synced {
					expect(t, "sync", s.Sync("a"), api.OK)
				}
				// Two changes: a Cut, whatever is there, and a Sync.
				s.Fuse(2)
				r, e := log.Recover(s, "a")
				expect(t, "recover", e, api.OK)
				expectRec(t, "recovered", r, m)
				if s.Sync("a") != api.ErrDown {
					t.Fatal("the fuse waits")
				}
				s.Crash()
				expectFile(t, "recovered", s, "a", m.bytes(), len(m.bytes()))
				(&run{s: s}).goesOn(t, "behind it")
			}
		}
	}
}

// Resume of a file does as Recover does, and its writer lives.
func TestResume(t *testing.T) {
	m := eightsOf(9)
	s := file.New(plenty)
	expect(t, "append", s.Append("a", []byte(m.bytes()+m.index())), api.OK)
	s.Fuse(2)
	w, e := log.Resume(s, "a")
	expect(t, "resume", e, api.OK)
	if w.Dead() || s.Sync("a") != api.ErrDown {
		t.Fatal("dead, or the fuse waits")
	}
	s.Crash()
	expectFile(t, "resumed", s, "a", m.bytes(), len(m.bytes()))
	expect(t, "too early", w.Add(api.Event{Time: m.last() - 1}), api.ErrArg)
	expect(t, "finish", w.Finish(), api.OK)
	expectFile(t, "finished", s, "a", m.bytes()+m.index(), len(m.bytes()+m.index()))
}

func TestRecoverAndResumeRefused(t *testing.T) {
	m := eightsOf(9)
	for _, c := range []struct {
		what  string
		bytes string
		down  bool
		name  string
		fuse  int
		want  api.Errno
	}{
		{"no such file", m.bytes(), false, "b", -1, api.ErrNone},
		{"no name", m.bytes(), false, "", -1, api.ErrNone},
		{"no such file, and a fuse", m.bytes(), false, "b", 0, api.ErrNone},
		{"no such file, and the store is down", m.bytes(), true, "b", -1, api.ErrDown},
		{"the store is down", m.bytes(), true, "a", -1, api.ErrDown},
		{"no bytes", "", false, "a", -1, api.ErrForm},
		{"no bytes, and a fuse", "", false, "a", 0, api.ErrForm},
		{"no bytes, and the store is down", "", true, "a", -1, api.ErrDown},
		{"no first frame", m.bytes()[1:], false, "a", -1, api.ErrForm},
		{"half a first frame", m.frames()[0][:9], false, "a", 0, api.ErrForm},
		{"an event first", m.frames()[1], false, "a", -1, api.ErrForm},
		{"an index first", m.index(), false, "a", -1, api.ErrForm},
		{"a fuse at the Cut", m.bytes(), false, "a", 0, api.ErrDown},
		{"a fuse at the Sync", m.bytes(), false, "a", 1, api.ErrDown},
		{"a fuse behind both", m.bytes(), false, "a", 2, api.OK},
	} {
		for _, resume := range []bool{false, true} {
			s := file.New(plenty)
			expect(t, c.what, s.Append("a", []byte(c.bytes)), api.OK)
			if c.down {
				s.Fuse(0)
				s.Sync("a")
			} else {
				s.Fuse(c.fuse)
			}
			if resume {
				w, e := log.Resume(s, c.name)
				expect(t, c.what, e, c.want)
				if (w != nil) != (e == api.OK) {
					t.Errorf("%s: %v", c.what, w)
				}
			} else {
				r, e := log.Recover(s, c.name)
				expect(t, c.what, e, c.want)
				if (r != nil) != (e == api.OK) {
					t.Errorf("%s: %v", c.what, r)
				}
			}
			s.Crash(plenty)
			expectFile(t, c.what, s, "a", c.bytes, len(c.bytes))
			if len(s.Names()) != 1 {
				t.Errorf("%s: there are %q", c.what, s.Names())
			}
		}
	}
}

// What is recovered is new memory: nothing that is done to it comes to the file, or to another one.
func TestRecoveredIsNewMemory(t *testing.T) {
	m := eightsOf(17)
	s := file.New(plenty)
	expect(t, "append", s.Append("a", []byte(m.bytes())), api.OK)
	r, _ := log.Recover(s, "a")
	expectParted(t, "recovered", r, m)
	w, _ := log.Resume(s, "a")
	expectParted(t, "resumed", &w.Rec, m)
	expectFile(t, "behind that", s, "a", m.bytes(), len(m.bytes()))
}

// A key that was torn behind the eighth event isn't made up for; the next one is behind the sixteenth.
func TestResumeWhereAKeyIsTorn(t *testing.T) {
	m := eightsOf(8)
	b := m.bytes()
	s := file.New(plenty)
	expect(t, "append", s.Append("a", []byte(b[:len(b)-1])), api.OK)
	w, e := log.Resume(s, "a")
	expect(t, "resume", e, api.OK)
	m = eightsOf(17)
	addAll(t, w, m.events[8:])
	m.keys = []int{16}
	expectRec(t, "gone on", &w.Rec, m)
	expectFile(t, "gone on", s, "a", m.bytes(), len(m.bytes())-len(joined(m.frames()[9:])))
}

// Keys that others put there don't move those that a writer adds.
func TestResumeBehindOtherKeys(t *testing.T) {
	for _, keys := range [][]int{nil, {0}, {0, 3, 9}, {9}, {1, 2, 3, 4, 5, 6, 7, 8, 9}} {
		m := eightsOf(9)
		m.keys = keys
		s := file.New(plenty)
		expect(t, "append", s.Append("a", []byte(m.bytes()+m.index())), api.OK)
		w, e := log.Resume(s, "a")
		expect(t, "resume", e, api.OK)
		m = eightsOf(25)
		addAll(t, w, m.events[9:])
		m.keys = append(slices.Clone(keys), 16, 24)
		expectRec(t, "gone on", &w.Rec, m)
		expect(t, "finish", w.Finish(), api.OK)
		expectFile(t, "gone on", s, "a", m.bytes()+m.index(), len(m.bytes()+m.index()))
	}
}

// P13.4: stores of each size: what has no room isn't written, not even a part, nor anything behind it.
func TestNoRoom(t *testing.T) {
	m := eightsOf(18)
	whole := len(m.bytes() + m.index())
	for quota := range whole + 3 {
		s := file.New(quota)
		w, e := log.Create(s, "a", term.New(3, 2))
		if quota < len(m.frames()[0]) {
			expect(t, "create", e, api.ErrFull)
			if w != nil || len(s.Names()) != 0 {
				t.Fatal("there is a file")
			}
			continue
		}
		expect(t, "create", e, api.OK)
		so := model{start: m.start}
		for _, x := range m.events {
			next := model{start: m.start, events: append(slices.Clone(so.events), x), keys: eighths(len(so.events) + 1)}
			if w.Dead() || len(next.bytes()) > quota {
				expect(t, "add with no room", w.Add(x), api.ErrFull)
				if !w.Dead() {
					t.Fatal("not dead")
				}
			} else {
				expect(t, "add", w.Add(x), api.OK)
				so = next
			}
			expectRec(t, "so far", &w.Rec, so)
		}
		bytes := so.bytes()
		expectFile(t, "added", s, "a", bytes, 0)
		if w.Dead() {
			expect(t, "finish", w.Finish(), api.ErrFull)
		} else if w.Finish() == api.OK {
			bytes += so.index()
		}
		if want := quota >= whole; (len(bytes) == whole) != want {
			t.Fatal(quota, len(bytes))
		}
		b, _ := s.Read("a")
		r, e := log.Decode(b)
		expect(t, "decode", e, api.OK)
		expectRec(t, "decoded", r, so)
		if string(b) != bytes {
			t.Fatalf("% X, want % X", b, bytes)
		}
		s.Crash(plenty)
		resumed, e := log.Resume(s, "a")
		expect(t, "resume", e, api.OK)
		expectRec(t, "resumed", &resumed.Rec, so)
	}
}

// The eighth event's frame and its key together: just room, and a byte too few.
func TestRoomForTheEighth(t *testing.T) {
	m := eightsOf(8)
	for _, room := range []int{0, -1} {
		s := file.New(len(m.bytes()) + room)
		w := create(t, s, "a")
		addAll(t, w, m.events[:7])
		want, so := api.OK, m
		if room < 0 {
			want, so = api.ErrFull, eightsOf(7)
		}
		expect(t, "add", w.Add(m.events[7]), want)
		expectRec(t, "added", &w.Rec, so)
		expectFile(t, "added", s, "a", so.bytes(), 0)
		if w.Dead() != (room < 0) {
			t.Error("dead", w.Dead())
		}
	}
}
