package log

import (
	"bytes"

	"flipbook/api"
	"flipbook/crc"
	"flipbook/event"
	"flipbook/state"
	"flipbook/term"
	"flipbook/vary"
)

// story: a recording, and the terminal behind all its events.
type story struct {
	Rec
	now *term.Term
}

// Rescue: the recording that bytes begin with, and how many of them it has; ErrForm: they begin with none.
func Rescue(b []byte) (*Rec, int, api.Errno) {
	s, n := read(b)
	if n == 0 {
		return nil, 0, api.ErrForm
	}
	return &s.Rec, n, api.OK
}

// Decode: the recording whose bytes these are; ErrForm: they are none's.
func Decode(b []byte) (*Rec, api.Errno) {
	r, n, e := Rescue(b)
	if e != api.OK {
		return nil, e
	}
	if n != len(b) && !bytes.Equal(b, r.Encode(true)) {
		return nil, api.ErrForm
	}
	return r, api.OK
}

// read: the recording that bytes begin with, and how many of them it has; 0: they begin with none.
func read(b []byte) (*story, int) {
	first, n := crc.Next(b)
	s, ok := begin(first)
	if !ok {
		return nil, 0
	}
	for {
		frame, more := crc.Next(b[n:])
		if !s.take(frame) {
			return s, n
		}
		n += more
	}
}

// begin: the recording of its first frame.
func begin(frame []byte) (*story, bool) {
	if len(frame) == 0 || frame[0] != SignStart {
		return nil, false
	}
	t, e := state.Decode(frame[1:])
	if e != api.OK {
		return nil, false
	}
	return &story{Rec: Rec{Start: frame[1:]}, now: t}, true
}

// take: one frame more; false: it may not stand there. (No frame has no bytes: none may.)
func (s *story) take(frame []byte) bool {
	if len(frame) == 0 {
		return false
	}
	switch frame[0] {
	case SignEvent:
		return s.takeEvent(frame[1:])
	case SignKey:
		return s.takeKey(frame[1:])
	}
	return false
}

func (s *story) takeEvent(b []byte) bool {
	r := vary.Of(b)
	e, ok := event.Take(r, s.Last())
	if !ok || !r.Done() {
		return false
	}
	s.Events = append(s.Events, e)
	Apply(s.now, e)
	return true
}

func (s *story) takeKey(b []byte) bool {
	after, n := vary.Take(b)
	if n == 0 || after != uint64(len(s.Events)) || !s.rises() {
		return false
	}
	// A terminal has one row of bytes alone, so those of the right one are known.
	if !bytes.Equal(b[n:], state.Encode(s.now)) {
		return false
	}
	s.Keys = append(s.Keys, Key{After: len(s.Events), State: b[n:]})
	return true
}

// rises: may there be a key behind the events so far?
func (s *story) rises() bool {
	return len(s.Keys) == 0 || s.Keys[len(s.Keys)-1].After < len(s.Events)
}
