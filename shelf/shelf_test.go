package shelf_test

import (
	"fmt"
	"math"
	"slices"
	"strings"
	"testing"

	"flipbook/api"
	"flipbook/file"
	"flipbook/shelf"
)

// all: a number for Crash that is at least what any file of the tests has.
const all = 1 << 20

// stored: a store of these files, each written as its name, a colon, the bytes that are sure, a bar, those that aren't.
func stored(t testing.TB, quota int, files string) *file.Store {
	t.Helper()
	s := file.New(quota)
	for _, f := range strings.Fields(files) {
		name, rest, _ := strings.Cut(f, ":")
		sure, loose, _ := strings.Cut(rest, "|")
		expect(t, "sure bytes of "+f, s.Append(name, []byte(sure)), api.OK)
		expect(t, "sync of "+f, s.Sync(name), api.OK)
		expect(t, "other bytes of "+f, s.Append(name, []byte(loose)), api.OK)
	}
	return s
}

// goDown: the power goes, and nothing is done.
func goDown(s *file.Store) {
	s.Fuse(0)
	s.Append("x", nil)
}

// files: what a store has, as stored takes it. Nothing of a store that is down can be read, so behind it such a store is up again, with all bytes that it had.
func files(t testing.TB, s *file.Store) string {
	t.Helper()
	sure := map[string]int{}
	for _, name := range s.Names() {
		sure[name] = s.Sure(name)
	}
	if !s.Up() {
		s.Crash(slices.Repeat([]int{all}, len(sure))...)
	}
	var l []string
	for _, name := range s.Names() {
		b, e := s.Read(name)
		expect(t, "read", e, api.OK)
		l = append(l, fmt.Sprintf("%s:%s|%s", name, b[:sure[name]], b[sure[name]:]))
	}
	return strings.Join(l, " ")
}

// told: all that the calls which change nothing tell of a store.
func told(s *file.Store) string {
	var out strings.Builder
	fmt.Fprintf(&out, "up %v, used %d, names %q", s.Up(), s.Used(), s.Names())
	for _, name := range append(s.Names(), "none") {
		b, e := s.Read(name)
		fmt.Fprintf(&out, "; %q: %q %d, %d sure", name, b, int(e), s.Sure(name))
	}
	return out.String()
}

func expect(t testing.TB, what string, got, want api.Errno) {
	t.Helper()
	if got != want {
		t.Errorf("%s: %d, want %d", what, int(got), int(want))
	}
}

func expectFiles(t testing.TB, what string, s *file.Store, want string) {
	t.Helper()
	if got := files(t, s); got != want {
		t.Errorf("%s: %q, want %q", what, got, want)
	}
}

// expectLeft: so many changes are done, and no more (below 0: any number).
func expectLeft(t testing.TB, what string, s *file.Store, left int) {
	t.Helper()
	for range max(left, 0) {
		expect(t, what+": a change that is left", s.Append("left", nil), api.OK)
	}
	if left >= 0 {
		expect(t, what+": one more change", s.Append("left", nil), api.ErrDown)
		return
	}
	for range 20 {
		expect(t, what+": a change without a fuse", s.Append("left", nil), api.OK)
	}
}

func TestExample(t *testing.T) {
	s := stored(t, 12, "f:123456|")
	expect(t, "as many bytes as there is room left for", shelf.Save(s, "f", []byte("abcdef")), api.OK)
	expectFiles(t, "as many", s, "f:abcdef|")
	x := stored(t, 11, "f:123456|")
	expect(t, "as many bytes as the file has, one more than there is room for", shelf.Save(x, "f", []byte("abcdef")), api.ErrFull)
	expectFiles(t, "the elder one", x, "f:123456|")
	x.Crash()
	expectFiles(t, "the elder one behind a crash", x, "f:123456|")
}

func TestSave(t *testing.T) {
	for _, c := range []struct {
		quota  int
		files  string
		name   string
		bytes  string
		answer api.Errno
		behind string
	}{
		// A name that is new, and one that there is.
		{20, "", "f", "abc", api.OK, "f:abc|"},
		{20, "g:x|yz", "f", "abc", api.OK, "f:abc| g:x|yz"},
		{20, "f:old|", "f", "abc", api.OK, "f:abc|"},
		{20, "f:|old", "f", "abc", api.OK, "f:abc|"},
		{20, "f:o|ld", "f", "abc", api.OK, "f:abc|"},
		{20, "f:|", "f", "abc", api.OK, "f:abc|"},
		{20, "f:old| g:x|yz h:|", "g", "abc", api.OK, "f:old| g:abc| h:|"},
		{20, "f:abc|", "f", "abc", api.OK, "f:abc|"},
		// No bytes, one, as many as there is room for, and one more.
		{20, "", "f", "", api.OK, "f:|"},
		{20, "f:o|ld", "f", "", api.OK, "f:|"},
		{20, "f:o|ld", "f", "1", api.OK, "f:1|"},
		{6, "", "f", "123456", api.OK, "f:123456|"},
		{6, "", "f", "1234567", api.ErrFull, ""},
		{6, "f:o|ld", "f", "123", api.OK, "f:123|"},
		{6, "f:o|ld", "f", "1234", api.ErrFull, "f:o|ld"},
		{6, "f:o|ld g:x|y", "f", "1", api.OK, "f:1| g:x|y"},
		{6, "f:o|ld g:x|y", "f", "12", api.ErrFull, "f:o|ld g:x|y"},
		{6, "f:o|ld g:x|y", "h", "12", api.ErrFull, "f:o|ld g:x|y"},
		{6, "f:123456|", "f", "1", api.ErrFull, "f:123456|"},
		{6, "f:123456|", "f", "", api.OK, "f:|"},
		{6, "f:123456|", "g", "", api.OK, "f:123456| g:|"},
		// Scratch of somebody, sure or not: it is gone first, so that its bytes count no more, and stand not ahead of those that are saved.
		{20, "~:ab|", "f", "123", api.OK, "f:123|"},
		{20, "~:|ab", "f", "123", api.OK, "f:123|"},
		{20, "~:a|b", "f", "", api.OK, "f:|"},
		{20, "~:|", "f", "123", api.OK, "f:123|"},
		{6, "~:ab|cd", "f", "123456", api.OK, "f:123456|"},
		{6, "~:ab|cd", "f", "1234567", api.ErrFull, ""},
		{6, "f:o|ld ~:ab|", "f", "123", api.OK, "f:123|"},
		{6, "f:o|ld ~:|ab", "f", "1234", api.ErrFull, "f:o|ld"},
		// A store that is full of scratch alone.
		{6, "~:abcdef|", "f", "123456", api.OK, "f:123456|"},
		{6, "~:|abcdef", "f", "123456", api.OK, "f:123456|"},
		{6, "~:abc|def", "f", "1", api.OK, "f:1|"},
		{6, "~:abc|def", "f", "1234567", api.ErrFull, ""},
		// No room at all.
		{0, "", "f", "", api.OK, "f:|"},
		{0, "", "f", "1", api.ErrFull, ""},
		{0, "f:|", "f", "", api.OK, "f:|"},
		{0, "f:|", "f", "1", api.ErrFull, "f:|"},
		{0, "~:|", "f", "", api.OK, "f:|"},
		{0, "~:|", "f", "1", api.ErrFull, ""},
		{-5, "", "f", "", api.OK, "f:|"},
		{-5, "", "f", "1", api.ErrFull, ""},
		{math.MinInt64, "f:|", "f", "1", api.ErrFull, "f:|"},
		{math.MaxInt64, "f:o|ld", "f", "123", api.OK, "f:123|"},
		// Names of one byte, of as many as may be, just below and above scratch, and such that begin with it.
		{20, "", "\x00", "12", api.OK, "\x00:12|"},
		{20, "", "\xFF", "12", api.OK, "\xFF:12|"},
		{20, "", "é", "12", api.OK, "é:12|"},
		{20, "", "123456789012", "12", api.OK, "123456789012:12|"},
		{20, "", "~~~~~~~~~~~~", "12", api.OK, "~~~~~~~~~~~~:12|"},
		{20, "~:a|b", "}", "12", api.OK, "}:12|"},
		{20, "~:a|b", "\x7F", "12", api.OK, "\x7F:12|"},
		{20, "~:a|b ~~:c|d", "~~", "12", api.OK, "~~:12|"},
		{20, "~:a|b ~~:c|d", "~a", "12", api.OK, "~a:12| ~~:c|d"},
		{20, "~:a|b", "~\x00", "12", api.OK, "~\x00:12|"},
		{20, "~:a|b", "a~", "12", api.OK, "a~:12|"},
	} {
		what := fmt.Sprintf("%d, %q: save %q as %q", c.quota, c.files, c.bytes, c.name)
		s := stored(t, c.quota, c.files)
		expect(t, what, shelf.Save(s, c.name, []byte(c.bytes)), c.answer)
		if !s.Up() {
			t.Errorf("%s: down", what)
		}
		expectFiles(t, what, s, c.behind)
		expectLeft(t, what, s, -1)
	}
}

// Any byte may be saved, and any byte may stand in a name.
func TestSaveOfEachByte(t *testing.T) {
	s := file.New(1000)
	want := make([]byte, 256)
	for i := range want {
		want[i] = byte(i)
	}
	for i := range 256 {
		name := string([]byte{byte(i), byte(i)})
		expect(t, "save", shelf.Save(s, name, want), api.OK)
		b, e := s.Read(name)
		if e != api.OK || !slices.Equal(b, want) || s.Sure(name) != 256 || s.Used() != 256 || len(s.Names()) != 1 {
			t.Fatalf("%q: %s", name, told(s))
		}
		expect(t, "delete", s.Delete(name), api.OK)
	}
}

// wrongNames: those that are none, and scratch's own.
var wrongNames = []string{"", "~", "1234567890123", "~~~~~~~~~~~~~", strings.Repeat("x", 1000)}

func TestSaveToNoName(t *testing.T) {
	for _, name := range wrongNames {
		for _, laid := range []string{"", "f:o|ld", "~:a|b", "f:o|ld ~:a|b ~~:x|"} {
			// It is the first error, be there room or not.
			for _, b := range []string{"", "1", "12345678901234567890"} {
				for fuse := -1; fuse < 5; fuse++ {
					what := fmt.Sprintf("%q, fuse %d: save %q as %q", laid, fuse, b, name)
					s := stored(t, 20, laid)
					s.Fuse(fuse)
					was := told(s)
					expect(t, what, shelf.Save(s, name, []byte(b)), api.ErrArg)
					if is := told(s); is != was {
						t.Errorf("%s: it was %s, and is %s", what, was, is)
					}
					expectLeft(t, what, s, fuse)
				}
			}
		}
	}
}

func TestSaveOnAStoreThatIsDown(t *testing.T) {
	for _, laid := range []string{"", "f:o|ld", "~:a|b", "f:o|ld ~:a|b ~~:x|"} {
		for _, name := range []string{"f", "g", "~~", "123456789012"} {
			for _, b := range []string{"", "1", strings.Repeat("1", 1000)} {
				s := stored(t, 20, laid)
				goDown(s)
				expect(t, fmt.Sprintf("%q: save %q as %q", laid, b, name), shelf.Save(s, name, []byte(b)), api.ErrDown)
				if s.Up() {
					t.Error("it is up")
				}
				expectFiles(t, laid, s, laid)
			}
		}
		for _, name := range wrongNames {
			s := stored(t, 20, laid)
			goDown(s)
			expect(t, fmt.Sprintf("%q: save as %q", laid, name), shelf.Save(s, name, []byte("1")), api.ErrArg)
			if s.Up() {
				t.Error("it is up")
			}
			expectFiles(t, laid, s, laid)
		}
	}
}

func TestSweep(t *testing.T) {
	for _, c := range []struct{ files, behind string }{
		{"", ""},
		{"f:o|ld", "f:o|ld"},
		{"f:o|ld ~~:x|y", "f:o|ld ~~:x|y"},
		{"~:|", ""},
		{"~:ab|", ""},
		{"~:|ab", ""},
		{"f:o|ld }:|z ~:a|b ~\x00:x| ~~:x|y \x7F:|", "f:o|ld }:|z ~\x00:x| ~~:x|y \x7F:|"},
	} {
		there := c.files != c.behind
		s := stored(t, 20, c.files)
		expect(t, c.files, shelf.Sweep(s), api.OK)
		expectFiles(t, c.files, s, c.behind)
		// Twice.
		expect(t, c.files, shelf.Sweep(s), api.OK)
		expectFiles(t, c.files, s, c.behind)
		// It is one change if there is scratch, and none if not.
		for fuse := range 4 {
			s := stored(t, 20, c.files)
			s.Fuse(fuse)
			want, behind := api.OK, c.behind
			left := fuse
			if there {
				left--
			}
			if left < 0 {
				want, behind = api.ErrDown, c.files
			}
			expect(t, c.files, shelf.Sweep(s), want)
			if s.Up() != (left >= 0) {
				t.Errorf("%q, fuse %d: up %v", c.files, fuse, s.Up())
			}
			if left < 0 {
				expect(t, c.files+" once more", shelf.Sweep(s), api.ErrDown)
				expectFiles(t, c.files, s, behind)
				continue
			}
			expectFiles(t, c.files, s, behind)
			expect(t, c.files+" once more", shelf.Sweep(s), api.OK)
			expectLeft(t, c.files, s, left)
		}
	}
}

func TestSweepOfAStoreThatIsDown(t *testing.T) {
	for _, c := range []struct {
		files  string
		answer api.Errno
	}{
		{"", api.OK},
		{"f:o|ld", api.OK},
		{"f:o|ld ~~:x|y", api.OK},
		{"~:|", api.ErrDown},
		{"~:a|", api.ErrDown},
		{"f:o|ld ~:|b ~~:x|y", api.ErrDown},
	} {
		s := stored(t, 20, c.files)
		goDown(s)
		was := told(s)
		for range 2 {
			expect(t, c.files, shelf.Sweep(s), c.answer)
			if is := told(s); is != was {
				t.Errorf("%q: it was %s, and is %s", c.files, was, is)
			}
		}
		expectFiles(t, c.files, s, c.files)
	}
}

func TestNames(t *testing.T) {
	for _, c := range []struct {
		files string
		names []string
	}{
		{"", nil},
		{"~:|", nil},
		{"~:a|b", nil},
		{"f:o|ld", []string{"f"}},
		{"f:o|ld ~:a|b", []string{"f"}},
		{"~~:x|y", []string{"~~"}},
		{"~:a|b ~~:x|y", []string{"~~"}},
		{"\x7F:| ~~:| f:o|ld ~:a|b }:|z \xFF:| ~\x00:x| aa:| a:| B:|", []string{"B", "a", "aa", "f", "}", "~\x00", "~~", "\x7F", "\xFF"}},
	} {
		s := stored(t, 20, c.files)
		s.Fuse(0)
		if got := shelf.Names(s); !slices.Equal(got, c.names) {
			t.Errorf("%q: %q, want %q", c.files, got, c.names)
		}
		if !s.Up() {
			t.Errorf("%q: asking for names is no change", c.files)
		}
		// Told of a store that is down, too.
		goDown(s)
		if got := shelf.Names(s); !slices.Equal(got, c.names) {
			t.Errorf("%q, down: %q, want %q", c.files, got, c.names)
		}
	}
}

// What went in, and what came out, is shared with nobody.
func TestNothingIsShared(t *testing.T) {
	for _, laid := range []string{"", "f:o|ld", "f:o|ld ~:a|b"} {
		s := stored(t, 20, laid)
		room := []byte("abcdefgh")
		b := room[:3]
		expect(t, "save", shelf.Save(s, "f", b), api.OK)
		if string(room) != "abcdefgh" {
			t.Errorf("%q: handed in abc, and def behind it; now there is %q", laid, room)
		}
		copy(room, "XXXXXXXX")
		expectFiles(t, laid, s, "f:abc|")
		expect(t, "append", s.Append("f", []byte("12345")), api.OK)
		if string(room) != "XXXXXXXX" {
			t.Errorf("%q: a later append changed %q", laid, room)
		}
		// Of one that is refused, too.
		expect(t, "too many", shelf.Save(s, "f", make([]byte, 13)), api.ErrFull)
		wrong := []byte("abc")
		expect(t, "no name", shelf.Save(s, "~", wrong), api.ErrArg)
		if string(wrong) != "abc" {
			t.Errorf("%q", wrong)
		}
	}
	s := stored(t, 20, "a:| b:| ~:x| ~~:|")
	l := shelf.Names(s)
	for i := range l {
		l[i] = "spoilt"
	}
	_ = append(l, "more")
	if got := shelf.Names(s); !slices.Equal(got, []string{"a", "b", "~~"}) {
		t.Errorf("%q", got)
	}
	if got := s.Names(); !slices.Equal(got, []string{"a", "b", "~", "~~"}) {
		t.Errorf("%q", got)
	}
}
