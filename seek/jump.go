package seek

import (
	"bytes"

	"flipbook/api"
	"flipbook/crc"
	"flipbook/event"
	"flipbook/log"
	"flipbook/state"
	"flipbook/term"
	"flipbook/vary"
)

// The frame F has a length of one byte, a sign, four bytes, and a sum of four.
const footBytes = 10

// A place is where a terminal stands in a recording's bytes: in the frame of its beginning, or of a key.
type place struct {
	head  []byte // what is ahead of the terminal in its frame
	time  int    // that of the last event ahead
	ahead int    // how many bytes are ahead of the frame
}

// Jump: the terminal at a time of a recording with an index: by that, and the frames behind the nearest state alone; ErrForm.
func Jump(b []byte, t int) (*term.Term, api.Errno) {
	frames, index, ok := parts(b)
	if !ok {
		return nil, api.ErrForm
	}
	p, ok := search(index, len(frames), t)
	if !ok {
		return nil, api.ErrForm
	}
	now, n := p.read(frames)
	if n == 0 || !goOn(now, frames[p.ahead+n:], p.time, t) {
		return nil, api.ErrForm
	}
	return now, api.OK
}

// parts: the frames ahead of the index, and what is in it; false: there is none.
func parts(b []byte) ([]byte, []byte, bool) {
	foot := len(b) - footBytes
	if foot < 0 {
		return nil, nil, false
	}
	where, n := open(b[foot:], log.SignFoot)
	if n != footBytes {
		return nil, nil, false
	}
	end := int(where[0]) | int(where[1])<<8 | int(where[2])<<16 | int(where[3])<<24
	if end >= foot {
		return nil, nil, false
	}
	index, n := open(b[end:foot], log.SignIndex)
	if n != foot-end {
		return nil, nil, false
	}
	return b[:end], index, true
}

// open: what is behind a head in the frame that bytes begin with, and how many bytes this has; 0: they begin with none that has it.
func open(b []byte, head ...byte) ([]byte, int) {
	f, n := crc.Next(b)
	rest, ok := bytes.CutPrefix(f, head)
	if !ok {
		return nil, 0
	}
	return rest, n
}

// search: the place that an index has nearest to a time, of frames of so many bytes; false: it is no index.
func search(index []byte, size, t int) (place, bool) {
	p := place{head: []byte{log.SignStart}}
	r := vary.Of(index)
	for range r.Num(0) {
		after, time, ahead := r.Num(0), r.Num(api.MaxTime), r.Num(size+1)
		// The number of keys may be any: what ends this is that the index does.
		if !r.Good() {
			break
		}
		// With no event ahead a key is no later than any time, be it below 0.
		if after == 0 || time <= t {
			p = place{head: vary.Put([]byte{log.SignKey}, uint64(after)), time: time, ahead: ahead}
		}
	}
	return p, r.Done()
}

// read: the terminal at a place, and how many bytes its frame has; 0: there is none.
func (p place) read(frames []byte) (*term.Term, int) {
	b, n := open(frames[p.ahead:], p.head...)
	t, e := state.Decode(b)
	if e != api.OK {
		return nil, 0
	}
	return t, n
}

// goOn: the events of frames on a terminal, behind a time, up to the first one that is later than another; false: a frame up to that has none.
func goOn(now *term.Term, frames []byte, from, t int) bool {
	for len(frames) > 0 {
		b, n := open(frames, log.SignEvent)
		e, ok := one(b, from)
		if !ok {
			return false
		}
		if e.Time > t {
			return true
		}
		log.Apply(now, e)
		frames, from = frames[n:], e.Time
	}
	return true
}

// one: the event whose bytes these are.
func one(b []byte, from int) (api.Event, bool) {
	r := vary.Of(b)
	e, ok := event.Take(r, from)
	return e, ok && r.Done()
}
