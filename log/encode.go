package log

import (
	"flipbook/api"
	"flipbook/crc"
	"flipbook/event"
	"flipbook/vary"
)

// A mark tells where a key's frame is: what the index has of a key.
type mark struct {
	after, time, ahead int
}

// Encode: a recording's bytes; with its index at the end, or without.
func (r *Rec) Encode(whole bool) []byte {
	b, marks := r.frames()
	if whole {
		b = putIndex(b, len(b), marks)
	}
	return b
}

// frames: the bytes without an index, and what the index says of them.
func (r *Rec) frames() ([]byte, []mark) {
	var marks []mark
	b := putFrame(nil, SignStart, r.Start)
	for i := range len(r.Events) + 1 {
		// Keys rise: the next one to be written is that behind as many as were.
		if k := len(marks); k < len(r.Keys) && r.Keys[k].After == i {
			marks = append(marks, mark{after: i, time: r.timeAhead(i), ahead: len(b)})
			b = putKey(b, r.Keys[k])
		}
		if i < len(r.Events) {
			b = putEvent(b, r.timeAhead(i), r.Events[i])
		}
	}
	return b, marks
}

func putEvent(b []byte, from int, e api.Event) []byte {
	return putFrame(b, SignEvent, event.Put(nil, from, e))
}

func putKey(b []byte, k Key) []byte {
	return putFrame(b, SignKey, append(vary.Put(nil, uint64(k.After)), k.State...))
}

// putIndex: the two frames of the index of a recording of so many bytes.
func putIndex(b []byte, size int, marks []mark) []byte {
	index := vary.Put(nil, uint64(len(marks)))
	for _, m := range marks {
		index = vary.Put(index, uint64(m.after), uint64(m.time), uint64(m.ahead))
	}
	b = putFrame(b, SignIndex, index)
	// Four bytes, whatever the number is, so that the foot is found from the end.
	return putFrame(b, SignFoot, []byte{byte(size), byte(size >> 8), byte(size >> 16), byte(size >> 24)})
}

func putFrame(b []byte, sign byte, rest []byte) []byte {
	return crc.Frame(b, append([]byte{sign}, rest...))
}
