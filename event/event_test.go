package event_test

import (
	"bytes"
	"math"
	"slices"
	"strings"
	"testing"

	"flipbook/api"
	"flipbook/event"
	"flipbook/vary"
)

// filled: an event's Data of so many bytes.
func filled(n int) string { return strings.Repeat("d", n) }

func TestRight(t *testing.T) {
	for _, c := range []struct {
		name string
		e    api.Event
		want bool
	}{
		{"zero", api.Event{}, true},
		{"the time ahead of 0", api.Event{Time: -1}, false},
		{"the least time", api.Event{Time: math.MinInt}, false},
		{"time 1", api.Event{Time: 1}, true},
		{"the last time", api.Event{Time: api.MaxTime - 1}, true},
		{"MaxTime", api.Event{Time: api.MaxTime}, false},
		{"past MaxTime", api.Event{Time: api.MaxTime + 1}, false},
		{"the greatest time", api.Event{Time: math.MaxInt}, false},
		{"kind -1", api.Event{Kind: -1}, false},
		{"Out", api.Event{Kind: 0, Data: "x"}, true},
		{"In", api.Event{Kind: 1, Data: "x"}, true},
		{"Size", api.Event{Kind: 2, W: 80, H: 24}, true},
		{"Mark", api.Event{Kind: 3, Data: "x"}, true},
		{"kind 4", api.Event{Kind: 4}, false},
		{"kind 4 with sides", api.Event{Kind: 4, W: 80, H: 24}, false},
		{"the least kind", api.Event{Kind: math.MinInt}, false},
		{"the greatest kind", api.Event{Kind: math.MaxInt}, false},
		{"a kind that is Size in its lowest byte", api.Event{Kind: 256 + 2, W: 80, H: 24}, false},
		{"In of nothing", api.Event{Kind: 1}, true},
		{"Mark of nothing", api.Event{Kind: 3}, true},
		{"Out of 400 bytes", api.Event{Kind: 0, Data: filled(400)}, true},
		{"Out of 401 bytes", api.Event{Kind: 0, Data: filled(401)}, false},
		{"In of 400 bytes", api.Event{Kind: 1, Data: filled(400)}, true},
		{"In of 401 bytes", api.Event{Kind: 1, Data: filled(401)}, false},
		{"Mark of 400 bytes", api.Event{Kind: 3, Data: filled(400)}, true},
		{"Mark of 401 bytes", api.Event{Kind: 3, Data: filled(401)}, false},
		{"400 bytes of 200 runes", api.Event{Data: strings.Repeat("é", 200)}, true},
		{"402 bytes of 201 runes", api.Event{Data: strings.Repeat("é", 201)}, false},
		{"bytes that are no runes", api.Event{Data: "\x00\xFF\x80\x1b"}, true},
		{"Size without sides", api.Event{Kind: 2}, false},
		{"Size of 1 by 1", api.Event{Kind: 2, W: 1, H: 1}, true},
		{"Size of 1000 by 1000", api.Event{Kind: 2, W: 1000, H: 1000}, true},
		{"Size of 0 columns", api.Event{Kind: 2, W: 0, H: 1}, false},
		{"Size of 0 lines", api.Event{Kind: 2, W: 1, H: 0}, false},
		{"Size of 1001 columns", api.Event{Kind: 2, W: 1001, H: 1}, false},
		{"Size of 1001 lines", api.Event{Kind: 2, W: 1, H: 1001}, false},
		{"Size of -1 columns", api.Event{Kind: 2, W: -1, H: 1}, false},
		{"Size of -1 lines", api.Event{Kind: 2, W: 1, H: -1}, false},
		{"Size with Data", api.Event{Kind: 2, W: 1, H: 1, Data: "x"}, false},
		{"Size with a byte 0", api.Event{Kind: 2, W: 1, H: 1, Data: "\x00"}, false},
		{"Size at the last time", api.Event{Time: api.MaxTime - 1, Kind: 2, W: 1, H: 1}, true},
		{"Size at MaxTime", api.Event{Time: api.MaxTime, Kind: 2, W: 1, H: 1}, false},
		{"Size at -1", api.Event{Time: -1, Kind: 2, W: 1, H: 1}, false},
		{"Out with columns", api.Event{Kind: 0, W: 1}, false},
		{"Out with lines", api.Event{Kind: 0, H: 1}, false},
		{"In with columns", api.Event{Kind: 1, W: 1}, false},
		{"In with lines", api.Event{Kind: 1, H: 1}, false},
		{"Mark with columns", api.Event{Kind: 3, W: 1}, false},
		{"Mark with lines", api.Event{Kind: 3, H: 1}, false},
		{"Mark with sides below 0", api.Event{Kind: 3, W: -1, H: 1}, false},
	} {
		if got := event.Right(c.e); got != c.want {
			t.Errorf("%s: %v", c.name, got)
		}
	}
}

func TestList(t *testing.T) {
	size := api.Event{Time: 5, Kind: api.Size, W: 1, H: 1}
	for _, c := range []struct {
		name string
		l    []api.Event
		want bool
	}{
		{"none", nil, true},
		{"an empty one", []api.Event{}, true},
		{"one", []api.Event{{Time: 5}}, true},
		{"one at 0", []api.Event{{}}, true},
		{"one at the last time", []api.Event{{Time: api.MaxTime - 1}}, true},
		{"one at MaxTime", []api.Event{{Time: api.MaxTime}}, false},
		{"one at -1", []api.Event{{Time: -1}}, false},
		{"several of one time", []api.Event{{Time: 5}, size, {Time: 5, Kind: api.Mark}}, true},
		{"rising", []api.Event{{Time: 0}, {Time: 1}, size, {Time: api.MaxTime - 1}}, true},
		{"rising and staying", []api.Event{{Time: 4}, size, size, {Time: 6}, {Time: 6}}, true},
		{"one falls by 1 at the end", []api.Event{{Time: 4}, size, {Time: 4}}, false},
		{"one falls by 1 at the beginning", []api.Event{{Time: 6}, size, {Time: 7}}, false},
		{"one falls to 0", []api.Event{{Time: 1}, {Time: 0}}, false},
		{"one falls, none below the first", []api.Event{{Time: 1}, {Time: 9}, {Time: 8}}, false},
		{"one falls below that ahead of it, all later again", []api.Event{{Time: 1}, {Time: 9}, {Time: 2}, {Time: 10}}, false},
		{"the first isn't right", []api.Event{{Kind: 4}, size}, false},
		{"one between isn't right", []api.Event{size, {Time: 5, W: 1}, size}, false},
		{"the last isn't right", []api.Event{size, {Time: 5, Kind: api.Size}}, false},
	} {
		was := slices.Clone(c.l)
		if got := event.List(c.l...); got != c.want {
			t.Errorf("%s: %v", c.name, got)
		}
		if !slices.Equal(c.l, was) {
			t.Errorf("%s: %v became %v", c.name, was, c.l)
		}
	}
	if !event.List() || !event.List(size, size) || event.List(size, api.Event{Time: 4}) {
		t.Error("events handed in one by one")
	}
}

// A row is an event, the time of that ahead, and its bytes behind that.
type row struct {
	name  string
	from  int
	e     api.Event
	bytes string
}

func rows() []row {
	const last = api.MaxTime - 1
	return []row{
		{"the chapter's example", 3, api.Event{Time: 5, Kind: api.Out, Data: "x"}, "\x00\x02\x01x"},
		{"nothing at 0", 0, api.Event{}, "\x00\x00\x00"},
		{"at from", 5, api.Event{Time: 5, Data: "ab"}, "\x00\x00\x02ab"},
		{"behind 0", 0, api.Event{Time: 5, Data: "ab"}, "\x00\x05\x02ab"},
		{"In", 0, api.Event{Time: 1, Kind: api.In, Data: "\x00\xFF"}, "\x01\x01\x02\x00\xFF"},
		{"Mark", 10, api.Event{Time: 138, Kind: api.Mark, Data: "m"}, "\x03\x80\x01\x01m"},
		{"Mark of nothing", 10, api.Event{Time: 137, Kind: api.Mark}, "\x03\x7F\x00"},
		{"Size", 3, api.Event{Time: 3, Kind: api.Size, W: 80, H: 24}, "\x02\x00\x50\x18"},
		{"Size, the least", 3, api.Event{Time: 4, Kind: api.Size, W: 1, H: 1}, "\x02\x01\x01\x01"},
		{"Size, the greatest", 3, api.Event{Time: 3, Kind: api.Size, W: 1000, H: 1000}, "\x02\x00\xE8\x07\xE8\x07"},
		{"Size, wide", 0, api.Event{Time: 300, Kind: api.Size, W: 1000, H: 1}, "\x02\xAC\x02\xE8\x07\x01"},
		{"Size, high", 0, api.Event{Time: 300, Kind: api.Size, W: 127, H: 128}, "\x02\xAC\x02\x7F\x80\x01"},
		{"400 bytes", 0, api.Event{Kind: api.Out, Data: filled(400)}, "\x00\x00\x90\x03" + filled(400)},
		{"127 bytes", 0, api.Event{Kind: api.In, Data: filled(127)}, "\x01\x00\x7F" + filled(127)},
		{"the last time behind 0", 0, api.Event{Time: last}, "\x00\xFF\xFF\xFF\xFF\xFF\xFF\xFF\xFF\x3F\x00"},
		{"the last time behind itself", last, api.Event{Time: last, Data: "e"}, "\x00\x00\x01e"},
		{"the last time behind the one ahead", last - 1, api.Event{Time: last, Kind: api.Mark, Data: "e"}, "\x03\x01\x01e"},
	}
}

func TestPut(t *testing.T) {
	for _, c := range rows() {
		for _, ahead := range []string{"", "a", "\x80ahead"} {
			if got := string(event.Put([]byte(ahead), c.from, c.e)); got != ahead+c.bytes {
				t.Errorf("%s behind %q: % X", c.name, ahead, got)
			}
		}
		if got := string(event.Put(nil, c.from, c.e)); got != c.bytes {
			t.Errorf("%s behind nil: % X", c.name, got)
		}
	}
}

// Room behind the bytes may be used, the bytes themselves stay.
func TestPutKeepsTheBytesAhead(t *testing.T) {
	room := append(make([]byte, 0, 4096), "ahead"...)
	for _, c := range rows() {
		got := event.Put(room, c.from, c.e)
		if string(room) != "ahead" || string(got) != "ahead"+c.bytes {
			t.Errorf("%s: % X, % X", c.name, room, got)
		}
	}
}

func TestTake(t *testing.T) {
	for _, c := range rows() {
		r := vary.Of([]byte(c.bytes + "\x4D"))
		e, ok := event.Take(r, c.from)
		if !ok || e != c.e {
			t.Errorf("%s: %v, %v", c.name, e, ok)
		}
		if n := r.Num(0); n != 0x4D || !r.Done() {
			t.Errorf("%s: behind it %d", c.name, n)
		}
	}
}

// One's bytes tell how much later it is, not when.
func TestTakeBehindAnotherTime(t *testing.T) {
	for _, from := range []int{0, 1, 7, 300, 1 << 40, api.MaxTime - 4, api.MaxTime - 3} {
		e, ok := event.Take(vary.Of([]byte("\x03\x02\x01m")), from)
		if want := (api.Event{Time: from + 2, Kind: api.Mark, Data: "m"}); !ok || e != want {
			t.Errorf("behind %d: %v, %v", from, e, ok)
		}
	}
	for _, from := range []int{api.MaxTime - 2, api.MaxTime - 1} {
		expectNone(t, "a time past the last one", []byte("\x03\x02\x01m"), from)
	}
}

// expectNone: no event there, nor behind that place, whatever comes.
func expectNone(t *testing.T, name string, b []byte, from int) {
	t.Helper()
	for _, behind := range []string{"", "\x00\x00\x01x", "\x02\x00\x01\x01\x02\x00\x01\x01"} {
		r := vary.Of(append(bytes.Clone(b), behind...))
		for i := range 3 {
			if e, ok := event.Take(r, from); ok || e != (api.Event{}) {
				t.Errorf("%s, with %q behind, asked %d times: %v, %v", name, behind, i+1, e, ok)
			}
		}
	}
}

func TestTakeWrong(t *testing.T) {
	for _, c := range []struct {
		name  string
		from  int
		bytes string
	}{
		{"kind 4", 0, "\x04\x00\x00"},
		{"kind 4 as a Size", 0, "\x04\x00\x01\x01"},
		{"kind 128", 0, "\x80\x01\x00\x00"},
		{"a kind of 64 bits", 0, "\xFF\xFF\xFF\xFF\xFF\xFF\xFF\xFF\xFF\x01\x00\x00"},
		{"a kind of two bytes, the last one 0", 0, "\x80\x00\x00\x00"},
		{"Out's kind, 0 on top", 0, "\x83\x00\x00\x00"},
		{"MaxTime behind 0", 0, "\x00\x80\x80\x80\x80\x80\x80\x80\x80\x40\x00"},
		{"past MaxTime behind 0", 0, "\x00\x81\x80\x80\x80\x80\x80\x80\x80\x40\x00"},
		{"2^63 - 1 later", 0, "\x00\xFF\xFF\xFF\xFF\xFF\xFF\xFF\xFF\x7F\x00"},
		{"2^63 later", 0, "\x00\x80\x80\x80\x80\x80\x80\x80\x80\x80\x01\x00"},
		{"2^64 - 1 later", 5, "\x00\xFF\xFF\xFF\xFF\xFF\xFF\xFF\xFF\xFF\x01\x00"},
		{"past 64 bits", 5, "\x00\xFF\xFF\xFF\xFF\xFF\xFF\xFF\xFF\xFF\x02\x00"},
		{"MaxTime behind 1", 1, "\x00\xFF\xFF\xFF\xFF\xFF\xFF\xFF\xFF\x3F\x00"},
		{"MaxTime behind the last time", api.MaxTime - 1, "\x00\x01\x00"},
		{"Mark at MaxTime", api.MaxTime - 2, "\x03\x02\x01m"},
		{"Size at MaxTime", api.MaxTime - 1, "\x02\x01\x01\x01"},
		{"2^62 later, behind the last time", api.MaxTime - 1, "\x00\x80\x80\x80\x80\x80\x80\x80\x80\x40\x00"},
		{"2^63 - 1 later, behind the last time", api.MaxTime - 1, "\x00\xFF\xFF\xFF\xFF\xFF\xFF\xFF\xFF\x7F\x00"},
		{"how much later in more bytes than it needs", 3, "\x00\x82\x00\x01x"},
		{"0 columns", 0, "\x02\x00\x00\x01"},
		{"0 lines", 0, "\x02\x00\x01\x00"},
		{"no sides", 0, "\x02\x00\x00\x00"},
		{"1001 columns", 0, "\x02\x00\xE9\x07\x01"},
		{"1001 lines", 0, "\x02\x00\x01\xE9\x07"},
		{"far too many columns", 0, "\x02\x00\xFF\xFF\xFF\xFF\xFF\xFF\xFF\xFF\xFF\x01\x01"},
		{"far too many lines", 0, "\x02\x00\x01\x80\x80\x80\x80\x80\x80\x80\x80\x80\x01"},
		{"columns in more bytes than they need", 0, "\x02\x00\x81\x00\x01"},
		{"lines in more bytes than they need", 0, "\x02\x00\x01\x81\x00"},
		{"Out of 401 bytes", 0, "\x00\x00\x91\x03" + filled(401)},
		{"In of 401 bytes", 0, "\x01\x00\x91\x03" + filled(401)},
		{"Mark of 401 bytes", 0, "\x03\x00\x91\x03" + filled(401)},
		{"a length in more bytes than it needs", 0, "\x00\x00\x81\x00x"},
		{"a length that no bytes have", 0, "\x00\x00\xFF\xFF\xFF\xFF\xFF\xFF\xFF\xFF\xFF\x01"},
		{"a length of 2^63", 0, "\x00\x00\x80\x80\x80\x80\x80\x80\x80\x80\x80\x01"},
	} {
		expectNone(t, c.name, []byte(c.bytes), c.from)
	}
}

func TestTakeOfNothing(t *testing.T) {
	for _, b := range [][]byte{nil, {}} {
		for _, from := range []int{0, 5, api.MaxTime - 1} {
			if e, ok := event.Take(vary.Of(b), from); ok || e != (api.Event{}) {
				t.Errorf("behind %d: %v, %v", from, e, ok)
			}
		}
	}
}

// A reader that is bad has no event, whatever its bytes were.
func TestTakeOfABadReader(t *testing.T) {
	r := vary.Of([]byte("\x05\x00\x00\x01x"))
	r.Num(5)
	if e, ok := event.Take(r, 0); ok || e != (api.Event{}) {
		t.Error(e, ok)
	}
}

func TestTakeCutOff(t *testing.T) {
	for _, c := range rows() {
		for n := range len(c.bytes) {
			r := vary.Of([]byte(c.bytes[:n]))
			if e, ok := event.Take(r, c.from); ok || e != (api.Event{}) {
				t.Errorf("%s, the first %d bytes: %v, %v", c.name, n, e, ok)
			}
		}
	}
}

// at: events of these times.
func at(times ...int) []api.Event {
	var l []api.Event
	for i, x := range times {
		l = append(l, api.Event{Time: x, Data: filled(i)})
	}
	return l
}

func TestUntil(t *testing.T) {
	const last = api.MaxTime - 1
	for _, c := range []struct {
		name string
		l    []api.Event
		t    int
		want int
	}{
		{"none, at 0", nil, 0, 0},
		{"none, below 0", nil, -1, 0},
		{"none, behind all times", nil, math.MaxInt, 0},
		{"an empty one", []api.Event{}, 5, 0},
		{"ahead of all", at(3, 5, 9), 2, 0},
		{"below 0", at(0, 3), -1, 0},
		{"far below 0", at(0, 3), math.MinInt, 0},
		{"0, all later", at(1, 2), 0, 0},
		{"0, one is there", at(0, 2), 0, 1},
		{"at the first", at(3, 5, 9), 3, 1},
		{"between the first two", at(3, 5, 9), 4, 1},
		{"at the second", at(3, 5, 9), 5, 2},
		{"between the last two", at(3, 5, 9), 8, 2},
		{"at the last", at(3, 5, 9), 9, 3},
		{"behind all", at(3, 5, 9), 10, 3},
		{"far behind all", at(3, 5, 9), math.MaxInt, 3},
		{"two at 5, one at 6", at(5, 5, 6), 5, 2},
		{"ahead of two at 5", at(5, 5, 6), 4, 0},
		{"all of one time", at(5, 5, 5, 5), 5, 4},
		{"all of one time, ahead", at(5, 5, 5, 5), 4, 0},
		{"several between", at(1, 5, 5, 5, 9), 5, 4},
		{"ahead of several between", at(1, 5, 5, 5, 9), 4, 1},
		{"behind several between", at(1, 5, 5, 5, 9), 8, 4},
		{"the last time", at(0, last, last), last, 3},
		{"ahead of the last time", at(0, last, last), last - 1, 1},
		{"MaxTime", at(0, last, last), api.MaxTime, 3},
	} {
		if got := event.Until(c.l, c.t); got != c.want {
			t.Errorf("%s: %d, want %d", c.name, got, c.want)
		}
	}
}

func TestShift(t *testing.T) {
	const last = api.MaxTime - 1
	size := api.Event{Time: 9, Kind: api.Size, W: 80, H: 24}
	mark := api.Event{Time: 9, Kind: api.Mark, Data: "m"}
	for _, c := range []struct {
		name string
		l    []api.Event
		by   int
		want []api.Event
	}{
		{"none", nil, 5, nil},
		{"an empty one", []api.Event{}, -5, nil},
		{"by 0", []api.Event{{Time: 3, Data: "x"}, size}, 0, []api.Event{{Time: 3, Data: "x"}, size}},
		{"later", at(3, 5, 5, 9), 4, at(7, 9, 9, 13)},
		{"earlier", at(3, 5, 5, 9), -3, at(0, 2, 2, 6)},
		{"below 0", at(3, 5), -9, at(-6, -4)},
		{"each kind", []api.Event{{Time: 2, Kind: api.In, Data: "k"}, size, mark}, 1, []api.Event{{Time: 3, Kind: api.In, Data: "k"}, {Time: 10, Kind: api.Size, W: 80, H: 24}, {Time: 10, Kind: api.Mark, Data: "m"}}},
		{"to the last time", at(0, 1), last - 1, at(last-1, last)},
		{"past MaxTime", at(last), last, at(2 * last)},
		{"to the greatest int", at(0), math.MaxInt, at(math.MaxInt)},
		{"to the least int", at(0), math.MinInt, at(math.MinInt)},
		{"from the last time far down", at(last), math.MinInt, at(math.MinInt + last)},
	} {
		was := slices.Clone(c.l)
		if got := event.Shift(c.l, c.by); !slices.Equal(got, c.want) {
			t.Errorf("%s: %v, want %v", c.name, got, c.want)
		}
		if !slices.Equal(c.l, was) {
			t.Errorf("%s: the list handed in became %v", c.name, c.l)
		}
		if back := event.Shift(event.Shift(c.l, c.by), -c.by); c.by != math.MinInt && !slices.Equal(back, was) {
			t.Errorf("%s: there and back: %v", c.name, back)
		}
	}
}

// The answer is new memory, with room behind it or not.
func TestShiftSharesNothing(t *testing.T) {
	for _, by := range []int{0, 5} {
		room := append(make([]api.Event, 0, 9), at(1, 2, 3)...)
		got := event.Shift(room, by)
		got[0].Time, got[2].Data = 77, "changed"
		_ = append(got, api.Event{Kind: api.Mark})
		if !slices.Equal(room, at(1, 2, 3)) || room[:4][3] != (api.Event{}) {
			t.Errorf("by %d: the list handed in became %v", by, room[:4])
		}
		again := event.Shift(room, by)
		room[1].Time = 88
		if again[1].Time != 2+by {
			t.Errorf("by %d: the answer became %v", by, again)
		}
	}
	none := append(make([]api.Event, 0, 9), at(1, 2)...)[:0]
	_ = append(event.Shift(none, 1), api.Event{Kind: api.Mark})
	if none[:1][0] != at(1)[0] {
		t.Error("an empty list's room became", none[:1])
	}
}
