package log

import (
	"slices"

	"flipbook/api"
	"flipbook/event"
	"flipbook/file"
	"flipbook/state"
	"flipbook/term"
)

// A Writer writes a recording to a file, event by event.
type Writer struct {
	Rec
	now   *term.Term // behind all events, as long as it isn't dead
	store *file.Store
	name  string
	dead  bool
}

// Create: a recording that begins with a terminal; ErrThere: the file is there; the store's error.
func Create(s *file.Store, name string, t *term.Term) (*Writer, api.Errno) {
	if slices.Contains(s.Names(), name) {
		return nil, api.ErrThere
	}
	r := New(t)
	if e := s.Append(name, r.Encode(false)); e != api.OK {
		return nil, e
	}
	return &Writer{Rec: *r, now: state.Copy(t), store: s, name: name}, api.OK
}

// Recover: the recording of a file behind a crash; what is behind it is cut off.
func Recover(s *file.Store, name string) (*Rec, api.Errno) {
	found, e := mend(s, name)
	if e != api.OK {
		return nil, e
	}
	return &found.Rec, api.OK
}

// Resume: a writer that goes on behind the recording of a file.
func Resume(s *file.Store, name string) (*Writer, api.Errno) {
	found, e := mend(s, name)
	if e != api.OK {
		return nil, e
	}
	return &Writer{Rec: found.Rec, now: found.now, store: s, name: name}, api.OK
}

// mend: what a file has; it has no more behind that, and all of it is sure.
func mend(s *file.Store, name string) (*story, api.Errno) {
	b, e := s.Read(name)
	if e != api.OK {
		return nil, e
	}
	found, n := read(b)
	if n == 0 {
		return nil, api.ErrForm
	}
	if e := s.Cut(name, n); e != api.OK {
		return nil, e
	}
	if e := s.Sync(name); e != api.OK {
		return nil, e
	}
	return found, api.OK
}

// Dead: is nothing written any more?
func (w *Writer) Dead() bool { return w.dead }

// Add: an event; with each so many of them a state behind it. ErrArg: it may not be, or is too early; ErrFull: it is dead, or there is no room: then it is.
func (w *Writer) Add(e api.Event) api.Errno {
	if !event.Right(e) || e.Time < w.Last() {
		return api.ErrArg
	}
	if w.dead {
		return api.ErrFull
	}
	b := putEvent(nil, w.Last(), e)
	keys := w.Keys
	Apply(w.now, e)
	if n := len(w.Events) + 1; n%api.Every == 0 {
		k := Key{After: n, State: state.Encode(w.now)}
		b = putKey(b, k)
		keys = append(keys, k)
	}
	if w.store.Append(w.name, b) != api.OK {
		w.dead = true
		return api.ErrFull
	}
	w.Events, w.Keys = append(w.Events, e), keys
	return api.OK
}

// Sync: what was written is sure.
func (w *Writer) Sync() api.Errno { return w.store.Sync(w.name) }

// Finish: the index is written, all is sure, and nothing is written any more.
func (w *Writer) Finish() api.Errno {
	if w.dead {
		return api.ErrFull
	}
	w.dead = true
	b, marks := w.frames()
	if e := w.store.Append(w.name, putIndex(nil, len(b), marks)); e != api.OK {
		return e
	}
	return w.Sync()
}
