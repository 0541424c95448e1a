package log_test

import (
	"math"
	"slices"
	"strings"
	"testing"

	"flipbook/api"
	"flipbook/file"
	"flipbook/log"
	"flipbook/state"
	"flipbook/term"
)

const plenty = 1 << 20

// expect: what a call answers.
func expect(t *testing.T, what string, got, want api.Errno) {
	t.Helper()
	if got != want {
		t.Fatalf("%s: %d, want %d", what, int(got), int(want))
	}
}

// create: a writer that begins with a blank terminal of 3 by 2.
func create(t *testing.T, s *file.Store, name string) *log.Writer {
	t.Helper()
	w, e := log.Create(s, name, term.New(3, 2))
	expect(t, "create", e, api.OK)
	if w.Dead() {
		t.Fatal("a new writer is dead")
	}
	return w
}

func addAll(t *testing.T, w *log.Writer, l []api.Event) {
	t.Helper()
	for _, e := range l {
		expect(t, "add", w.Add(e), api.OK)
	}
}

// expectFile: there is a file of just these bytes, so many of them sure.
func expectFile(t *testing.T, what string, s *file.Store, name, want string, sure int) {
	t.Helper()
	b, e := s.Read(name)
	if e != api.OK || string(b) != want || s.Sure(name) != sure {
		t.Fatalf("%s: %q has % X (%d), %d sure; want % X, %d sure", what, name, b, int(e), s.Sure(name), want, sure)
	}
}

func TestCreate(t *testing.T) {
	s := file.New(plenty)
	x := written(3, 2, "ab\x1b[6n")
	w, e := log.Create(s, "a", x)
	expect(t, "create", e, api.OK)
	m := model{start: string(state.Encode(x))}
	expectRec(t, "the writer", &w.Rec, m)
	// Nothing of it is sure as yet.
	expectFile(t, "created", s, "a", frame("S"+m.start), 0)
	if w.Dead() {
		t.Error("dead")
	}
}

// The writer goes on from the terminal as it was, and leaves it as it is.
func TestCreateKeepsNothingOfTheTerminal(t *testing.T) {
	s := file.New(plenty)
	x := written(3, 2, "ab\n\n\n")
	m := model{start: string(state.Encode(x)), events: eightsOf(8).events, keys: []int{8}}
	w, e := log.Create(s, "a", x)
	expect(t, "create", e, api.OK)
	x.Write("\x1b[31mxyz\n\n\n")
	x.Back[0][0].Rune = 'Q'
	was := string(state.Encode(x))
	addAll(t, w, m.events)
	if string(state.Encode(x)) != was {
		t.Error("the terminal that was handed in changed")
	}
	expectRec(t, "the writer", &w.Rec, m)
}

func TestCreateRefused(t *testing.T) {
	size := len(frame("S" + string(state.Encode(term.New(3, 2)))))
	for _, c := range []struct {
		what  string
		quota int
		fuse  int
		name  string
		want  api.Errno
	}{
		{"there is such a file", plenty, -1, "there", api.ErrThere},
		{"there is such a file, and no room", 5, -1, "there", api.ErrThere},
		{"there is such a file, and a fuse", plenty, 0, "there", api.ErrThere},
		{"an empty name", plenty, -1, "", api.ErrArg},
		{"a name of 13 bytes", plenty, -1, "1234567890123", api.ErrArg},
		{"an empty name, and no room", 5, -1, "", api.ErrArg},
		{"no room", 5, -1, "a", api.ErrFull},
		{"a byte too few", 5 + size - 1, -1, "a", api.ErrFull},
		{"just room", 5 + size, -1, "a", api.OK},
		{"a name of one byte", plenty, -1, "\xFF", api.OK},
		{"a name of 12 bytes", plenty, -1, "123456789012", api.OK},
		{"a fuse", plenty, 0, "a", api.ErrDown},
		{"a fuse that waits", plenty, 1, "a", api.OK},
		{"no room, and a fuse", 5, 0, "a", api.ErrFull},
	} {
		s := file.New(c.quota)
		expect(t, c.what, s.Append("there", []byte("12345")), api.OK)
		s.Fuse(c.fuse)
		w, e := log.Create(s, c.name, term.New(3, 2))
		expect(t, c.what, e, c.want)
		if (w != nil) != (c.want == api.OK) {
			t.Errorf("%s: %v", c.what, w)
		}
		if want := c.want != api.ErrDown; s.Up() != want {
			t.Errorf("%s: up %v", c.what, s.Up())
		}
		s.Crash(5, 5)
		if b, _ := s.Read("there"); string(b) != "12345" || c.want != api.OK && s.Used() != 5 {
			t.Errorf("%s: %d bytes are used, there is %q", c.what, s.Used(), b)
		}
	}
}

func TestCreateOnAStoreThatIsDown(t *testing.T) {
	s := file.New(plenty)
	expect(t, "append", s.Append("there", nil), api.OK)
	s.Fuse(0)
	s.Sync("there")
	w, e := log.Create(s, "there", term.New(1, 1))
	expect(t, "such a file", e, api.ErrThere)
	v, e := log.Create(s, "a", term.New(1, 1))
	expect(t, "none", e, api.ErrDown)
	u, e := log.Create(s, "", term.New(1, 1))
	expect(t, "no name", e, api.ErrDown)
	if w != nil || v != nil || u != nil || len(s.Names()) != 1 {
		t.Error(w, v, u, s.Names())
	}
}

// The example: eight events, one key, behind the eighth.
func TestAddEight(t *testing.T) {
	s := file.New(plenty)
	w := create(t, s, "a")
	m := eightsOf(8)
	addAll(t, w, m.events)
	if len(w.Events) != 8 || len(w.Keys) != 1 || w.Keys[0].After != 8 || string(w.Keys[0].State) != terminal(m.start, m.events) {
		t.Errorf("%v", w.Rec)
	}
}

// The file is the recording's bytes behind each Add, each of which is one change of the store, and keys are behind each eighth event and no other.
func TestAddIsInTheFile(t *testing.T) {
	d := dice(3)
	for range 20 {
		s := file.New(plenty)
		x := chanceTerminal(&d)
		w, e := log.Create(s, "a", x)
		expect(t, "create", e, api.OK)
		m := model{start: string(state.Encode(x))}
		for range 35 {
			m.events = append(m.events, chanceEvent(&d, m.last()))
			m.keys = eighths(len(m.events))
			s.Fuse(1)
			expect(t, "add", w.Add(m.events[len(m.events)-1]), api.OK)
			expectRec(t, "the writer", &w.Rec, m)
		}
		s.Fuse(-1)
		expectFile(t, "added", s, "a", m.bytes(), 0)
		if string(w.Encode(false)) != m.bytes() || string(w.Encode(true)) != m.bytes()+m.index() {
			t.Fatal("a writer's recording has other bytes")
		}
	}
}

func TestAddOfWhatMayNotBe(t *testing.T) {
	for _, c := range []struct {
		what string
		e    api.Event
		want api.Errno
	}{
		{"a time below 0", api.Event{Time: -1}, api.ErrArg},
		{"MaxTime", api.Event{Time: api.MaxTime}, api.ErrArg},
		{"the greatest time", api.Event{Time: api.MaxTime - 1}, api.OK},
		{"far numbers", api.Event{Time: math.MinInt, Kind: math.MaxInt, W: math.MinInt, H: math.MaxInt}, api.ErrArg},
		{"kind 4", api.Event{Time: 9, Kind: 4}, api.ErrArg},
		{"kind -1", api.Event{Time: 9, Kind: -1}, api.ErrArg},
		{"401 bytes", api.Event{Time: 9, Data: strings.Repeat("x", 401)}, api.ErrArg},
		{"400 bytes", api.Event{Time: 9, Data: strings.Repeat("x", 400)}, api.OK},
		{"an Out with sides", api.Event{Time: 9, W: 1, H: 1}, api.ErrArg},
		{"a Size of 0", api.Event{Time: 9, Kind: api.Size, W: 0, H: 5}, api.ErrArg},
		{"a Size of 1001", api.Event{Time: 9, Kind: api.Size, W: 5, H: 1001}, api.ErrArg},
		{"a Size with bytes", api.Event{Time: 9, Kind: api.Size, W: 5, H: 5, Data: "x"}, api.ErrArg},
		{"a Size of 1000", api.Event{Time: 9, Kind: api.Size, W: 1000, H: 1000}, api.OK},
		{"earlier than Last", api.Event{Time: 6, Data: "x"}, api.ErrArg},
		{"at 0", api.Event{Data: "x"}, api.ErrArg},
		{"at Last", api.Event{Time: 7, Data: "x"}, api.OK},
		{"later", api.Event{Time: 8, Data: "x"}, api.OK},
	} {
		// The one that isn't right would be the eighth, too.
		for _, n := range []int{1, 7} {
			s := file.New(plenty)
			w := create(t, s, "a")
			m := model{start: string(state.Encode(term.New(3, 2)))}
			for range n {
				m.events = append(m.events, api.Event{Time: 7, Data: "y"})
			}
			addAll(t, w, m.events)
			s.Fuse(10)
			expect(t, c.what, w.Add(c.e), c.want)
			if c.want == api.OK {
				m.events = append(m.events, c.e)
				m.keys = eighths(n + 1)
			}
			expectRec(t, c.what, &w.Rec, m)
			expectFile(t, c.what, s, "a", m.bytes(), 0)
			// It is as if it hadn't been: not dead, and the terminal is as it was.
			m.events = append(m.events, api.Event{Time: api.MaxTime - 1, Data: "z"})
			addAll(t, w, m.events[len(m.events)-1:])
			m.keys = eighths(len(m.events))
			expectRec(t, c.what+", one more", &w.Rec, m)
			if w.Dead() {
				t.Errorf("%s: dead", c.what)
			}
		}
	}
}

// Of the first event no time is too early.
func TestAddOfTheFirst(t *testing.T) {
	for _, time := range []int{0, 1, api.MaxTime - 1} {
		w := create(t, file.New(plenty), "a")
		expect(t, "at a time", w.Add(api.Event{Time: time}), api.OK)
		if w.Last() != time {
			t.Error(w.Last())
		}
	}
}

// dying: writers that are dead, each in its way, of a recording of some events, with plenty of room in the store.
func dying(t *testing.T) map[string]*log.Writer {
	l := map[string]*log.Writer{}
	for _, n := range []int{3, 7} {
		for _, way := range []string{"no room", "a fuse", "finished", "finished with no room", "finished with a fuse", "finished with a fuse at its Sync"} {
			s := file.New(plenty)
			w := create(t, s, "a")
			addAll(t, w, eightsOf(n).events)
			switch way {
			case "no room", "finished with no room":
				expect(t, way, s.Append("z", make([]byte, plenty-s.Used())), api.OK)
			case "a fuse", "finished with a fuse":
				s.Fuse(0)
			case "finished with a fuse at its Sync":
				s.Fuse(1)
			}
			if strings.HasPrefix(way, "finished") {
				w.Finish()
			} else {
				expect(t, way, w.Add(api.Event{Time: 50}), api.ErrFull)
			}
			s.Crash(0, plenty)
			s.Delete("z")
			l[way+string(rune('0'+n))] = w
		}
	}
	return l
}

// A dead writer stays so, whatever room there is.
func TestDeadWriters(t *testing.T) {
	for way, w := range dying(t) {
		m := eightsOf(len(w.Events))
		for range 3 {
			if !w.Dead() {
				t.Fatalf("%s: not dead", way)
			}
			expect(t, way+": add", w.Add(api.Event{Time: 60}), api.ErrFull)
			expect(t, way+": add of what may not be", w.Add(api.Event{Time: 60, Kind: 9}), api.ErrArg)
			expect(t, way+": add of what is too early", w.Add(api.Event{}), api.ErrArg)
			expect(t, way+": finish", w.Finish(), api.ErrFull)
			expect(t, way+": sync", w.Sync(), api.OK)
			expectRec(t, way, &w.Rec, m)
		}
	}
}

func TestDeadWritersWriteNothing(t *testing.T) {
	for _, room := range []int{0, 1, 5, 99} {
		s := file.New(plenty)
		w := create(t, s, "a")
		m := eightsOf(3)
		addAll(t, w, m.events)
		expect(t, "z", s.Append("z", make([]byte, plenty-s.Used()-room)), api.OK)
		expect(t, "add", w.Add(api.Event{Time: 50, Data: strings.Repeat("x", 100)}), api.ErrFull)
		expect(t, "sync", w.Sync(), api.OK)
		expectFile(t, "dead", s, "a", m.bytes(), len(m.bytes()))
		expect(t, "room", s.Delete("z"), api.OK)
		expect(t, "add", w.Add(api.Event{Time: 50}), api.ErrFull)
		expect(t, "finish", w.Finish(), api.ErrFull)
		expectFile(t, "dead, with room", s, "a", m.bytes(), len(m.bytes()))
	}
}

func TestSync(t *testing.T) {
	s := file.New(plenty)
	w := create(t, s, "a")
	other := create(t, s, "b")
	m := eightsOf(9)
	size := 0
	for i := range 10 {
		expect(t, "sync", w.Sync(), api.OK)
		size = len(model{start: m.start, events: m.events[:i], keys: eighths(i)}.bytes())
		if s.Sure("a") != size || s.Sure("b") != 0 {
			t.Fatal(i, s.Sure("a"), size, s.Sure("b"))
		}
		if i < 9 {
			addAll(t, w, m.events[i:i+1])
			if s.Sure("a") != size {
				t.Fatal("an Add is sure by itself")
			}
		}
	}
	addAll(t, other, m.events)
	expect(t, "sync of the other", other.Sync(), api.OK)
	if s.Sure("b") != len(m.bytes()) {
		t.Error(s.Sure("b"))
	}
}

func TestSyncRefused(t *testing.T) {
	s := file.New(plenty)
	w := create(t, s, "a")
	s.Fuse(0)
	expect(t, "with a fuse", w.Sync(), api.ErrDown)
	expect(t, "of a store that is down", w.Sync(), api.ErrDown)
	if w.Dead() || s.Sure("a") != 0 {
		t.Error("a Sync that was refused did more")
	}
	x := file.New(plenty)
	v := create(t, x, "a")
	expect(t, "delete", x.Delete("a"), api.OK)
	expect(t, "of a file that is no more", v.Sync(), api.ErrNone)
	if v.Dead() || len(x.Names()) != 0 {
		t.Error("a Sync that was refused did more")
	}
}

func TestFinish(t *testing.T) {
	for _, n := range []int{0, 1, 7, 8, 9, 16, 17} {
		s := file.New(plenty)
		w := create(t, s, "a")
		m := eightsOf(n)
		addAll(t, w, m.events)
		s.Fuse(2)
		expect(t, "finish", w.Finish(), api.OK)
		whole := m.bytes() + m.index()
		expectFile(t, "finished", s, "a", whole, len(whole))
		expectRec(t, "finished", &w.Rec, m)
		if !w.Dead() {
			t.Error("not dead")
		}
		s.Fuse(-1)
		expect(t, "finish again", w.Finish(), api.ErrFull)
		expect(t, "add", w.Add(api.Event{Time: 99}), api.ErrFull)
		expect(t, "sync", w.Sync(), api.OK)
		expectFile(t, "finished twice", s, "a", whole, len(whole))
		b, _ := s.Read("a")
		r, e := log.Decode(b)
		expect(t, "decode", e, api.OK)
		expectRec(t, "decoded", r, m)
	}
}

func TestFinishWithNoRoom(t *testing.T) {
	for _, n := range []int{0, 1, 8, 9} {
		m := eightsOf(n)
		index := len(m.index())
		for room := range index + 2 {
			s := file.New(len(m.bytes()) + room)
			w := create(t, s, "a")
			addAll(t, w, m.events)
			want := api.ErrFull
			bytes, sure := m.bytes(), 0
			if room >= index {
				want = api.OK
				bytes += m.index()
				sure = len(bytes)
			}
			expect(t, "finish", w.Finish(), want)
			expectFile(t, "finished", s, "a", bytes, sure)
			expectRec(t, "finished", &w.Rec, m)
			if !w.Dead() {
				t.Error("not dead")
			}
		}
	}
}

func TestFinishWithAFuse(t *testing.T) {
	m := eightsOf(9)
	for _, fuse := range []int{0, 1} {
		s := file.New(plenty)
		w := create(t, s, "a")
		addAll(t, w, m.events)
		s.Fuse(fuse)
		expect(t, "finish", w.Finish(), api.ErrDown)
		expect(t, "finish again", w.Finish(), api.ErrFull)
		if !w.Dead() || s.Up() {
			t.Error(w.Dead(), s.Up())
		}
		s.Crash(plenty)
		whole := m.bytes() + strings.Repeat(m.index(), fuse)
		expectFile(t, "behind the crash", s, "a", whole, len(whole))
	}
}

// Sync's error, where the file went away behind the writer.
func TestFinishBehindADelete(t *testing.T) {
	s := file.New(plenty)
	w := create(t, s, "a")
	expect(t, "delete", s.Delete("a"), api.OK)
	expect(t, "finish", w.Finish(), api.OK)
	m := eightsOf(0)
	expectFile(t, "finished", s, "a", m.index(), len(m.index()))
}

func TestWritersOfOneStore(t *testing.T) {
	s := file.New(plenty)
	d := dice(4)
	names := []string{"a", "b", "c"}
	var writers []*log.Writer
	l := make([]model, 3)
	for i, name := range names {
		writers = append(writers, create(t, s, name))
		l[i].start = string(state.Encode(term.New(3, 2)))
	}
	for range 60 {
		i := d.upTo(3)
		e := chanceEvent(&d, l[i].last())
		expect(t, "add", writers[i].Add(e), api.OK)
		l[i].events = append(l[i].events, e)
		l[i].keys = eighths(len(l[i].events))
	}
	for i, name := range names {
		expectRec(t, name, &writers[i].Rec, l[i])
		expectFile(t, name, s, name, l[i].bytes(), 0)
	}
}

// What was taken of a writer's recording stays as it was when it goes on.
func TestRecordingsOfAWriterThatGoesOn(t *testing.T) {
	s := file.New(plenty)
	w := create(t, s, "a")
	m := eightsOf(26)
	var then []log.Rec
	for i := range 26 {
		then = append(then, w.Rec)
		addAll(t, w, m.events[i:i+1])
	}
	for i, r := range then {
		expectRec(t, "then", &r, model{start: m.start, events: slices.Clone(m.events[:i]), keys: eighths(i)})
	}
}
