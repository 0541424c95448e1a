package cell_test

import (
	"bytes"
	"math"
	"slices"
	"testing"

	"flipbook/api"
	"flipbook/cell"
	"flipbook/vary"
)

func TestPutLine(t *testing.T) {
	for name, x := range map[string]struct {
		l    []api.Cell
		want []byte
	}{
		"no cells":                {nil, nil},
		"one cell":                {line(narrow(plain)), []byte{1, 'a', 0}},
		"all the same":            {times(5, narrow(red)), []byte{5, 'a', 2}},
		"more than one piece has": {times(300, narrow(plain)), []byte{0xAC, 2, 'a', 0}},
		"no two the same":         {line(narrow(plain), empty(plain), narrow(red), narrow(plain)), []byte{1, 'a', 0, 1, ' ', 0, 1, 'a', 2, 1, 'a', 0}},
		"a run to the end":        {joined(line(narrow(plain)), times(3, empty(red))), []byte{1, 'a', 0, 3, ' ', 2}},
		"a run, and another":      {joined(times(2, narrow(plain)), line(empty(api.Style{Under: true, Back: 1}))), []byte{2, 'a', 0, 1, ' ', 0x90, 4}},
		"runs of two styles":      {joined(times(2, narrow(plain)), times(2, narrow(every))), []byte{2, 'a', 0, 2, 'a', 0x88, 0x0F}},
		"a wide rune":             {withRest(wide, red), []byte{1, 0xAD, 0x9C, 1, 2, 1, 0, 2}},
		"the same one twice":      {joined(withRest(0x1100, plain), withRest(0x1100, plain)), []byte{1, 0x80, 0x22, 0, 1, 0, 0, 1, 0x80, 0x22, 0, 1, 0, 0}},
		"the last rune":           {times(2, of(0x10FFFF, plain)), []byte{2, 0xFF, 0xFF, 0x43, 0}},
	} {
		was := slices.Clone(x.l)
		if b := cell.PutLine(nil, x.l); !bytes.Equal(b, x.want) {
			t.Errorf("%s: % X, want % X", name, b, x.want)
		}
		for _, room := range []int{0, 3, 100} {
			ahead := append(make([]byte, 0, 2+room), 9, 0xFF)
			if b := cell.PutLine(ahead, x.l); !bytes.Equal(b, append([]byte{9, 0xFF}, x.want...)) || !bytes.Equal(ahead, []byte{9, 0xFF}) {
				t.Errorf("%s: behind bytes: % X, and these are % X", name, b, ahead)
			}
		}
		if !sameLine(x.l, was) {
			t.Errorf("%s: the line that was handed in is %v", name, x.l)
		}
		if l, ok := cell.TakeLine(vary.Of(x.want), len(x.l)); !ok || !sameLine(l, x.l) {
			t.Errorf("%s: it comes back as %v, %v", name, l, ok)
		}
	}
}

// One line behind the other comes back, each by its own number of cells; the reader is behind the last one.
func TestLinesComeBackOneBehindTheOther(t *testing.T) {
	lines := [][]api.Cell{
		times(4, narrow(plain)), times(4, narrow(plain)), {}, line(narrow(plain)), withRest(wide, every),
		joined(withRest(wide, red), withRest(wide, red), times(56, empty(red))), {}, times(1000, of('~', every)),
	}
	var b []byte
	for _, l := range lines {
		b = cell.PutLine(b, l)
	}
	r := vary.Of(vary.Put(b, 77))
	for i, l := range lines {
		if got, ok := cell.TakeLine(r, len(l)); !ok || !sameLine(got, l) {
			t.Errorf("line %d comes back as %v, %v", i, got, ok)
		}
	}
	if n := r.Num(0); n != 77 || !r.Done() {
		t.Errorf("behind the lines: %d", n)
	}
}

// Each style and each kind of rune comes back, in a line.
func TestAllCellsComeBack(t *testing.T) {
	var l []api.Cell
	for _, s := range rightStyles() {
		l = joined(l, line(narrow(s)), withRest(wide, s), times(3, of(0x10FFFF, s)), line(empty(s)))
	}
	for _, r := range []rune{' ', '~', 128, 0x10FF, 0x303F, 0xD7FF, 0xE000, 0xFFFF, 0x10000} {
		l = append(l, of(r, red))
	}
	if !cell.Whole(l) {
		t.Fatal("the line isn't whole")
	}
	if got, ok := cell.TakeLine(vary.Of(cell.PutLine(nil, l)), len(l)); !ok || !sameLine(got, l) {
		t.Errorf("the line comes back as %v, %v", got, ok)
	}
}

// noLine: there is none, and with it comes nothing.
func noLine(t *testing.T, what string, b []byte, w int) {
	t.Helper()
	was := slices.Clone(b)
	if l, ok := cell.TakeLine(vary.Of(b), w); ok || len(l) != 0 {
		t.Errorf("%s: % X, of %d cells: %v, %v", what, b, w, l, ok)
	}
	if !bytes.Equal(b, was) {
		t.Errorf("%s: the bytes handed in are % X, not % X", what, b, was)
	}
}

func TestTakeLineOfNoCells(t *testing.T) {
	for _, b := range [][]byte{nil, {0}, {1, 'a', 0}, {0x80}, {0, 'a', 0}} {
		r := vary.Of(b)
		if l, ok := cell.TakeLine(r, 0); !ok || len(l) != 0 {
			t.Errorf("% X: %v, %v", b, l, ok)
		}
		if !r.Good() || r.Done() != (len(b) == 0) {
			t.Errorf("% X: the reader has gone on", b)
		}
	}
}

func TestTakeLineOfFewerAndOfMoreCells(t *testing.T) {
	for _, l := range [][]api.Cell{line(narrow(red)), times(5, narrow(plain)), joined(times(2, narrow(plain)), withRest(wide, red), times(3, empty(plain)))} {
		b := cell.PutLine(nil, l)
		for _, w := range []int{len(l) + 1, len(l) + 2, 100, math.MaxInt32, math.MaxInt - 1, math.MaxInt} {
			noLine(t, "more cells than there are", b, w)
		}
		for w := 1; w < len(l); w++ {
			head := l[:w]
			want := bytes.HasPrefix(b, cell.PutLine(nil, head)) && cell.Whole(head)
			got, ok := cell.TakeLine(vary.Of(b), w)
			if ok != want || want && !sameLine(got, head) || !want && len(got) != 0 {
				t.Errorf("the first %d cells of %v: %v, %v", w, l, got, ok)
			}
		}
	}
	// Behind a line's cells another run of the same cell may begin: it is the next one's.
	r := vary.Of([]byte{2, 'a', 0, 3, 'a', 0})
	if l, ok := cell.TakeLine(r, 2); !ok || !sameLine(l, times(2, narrow(plain))) {
		t.Errorf("the first line: %v, %v", l, ok)
	}
	if l, ok := cell.TakeLine(r, 3); !ok || !sameLine(l, times(3, narrow(plain))) || !r.Done() {
		t.Errorf("the second line: %v, %v", l, ok)
	}
}

func TestTakeLineOfWrongRuns(t *testing.T) {
	for name, x := range map[string]struct {
		b []byte
		w int
	}{
		"a run of none":                         {[]byte{0, 'a', 0, 2, 'b', 0}, 2},
		"a run of none, between":                {[]byte{1, 'a', 0, 0, 'b', 0, 1, 'c', 0}, 2},
		"a run of none alone":                   {[]byte{0, 'a', 0}, 1},
		"the same cell in two runs":             {[]byte{1, 'a', 0, 1, 'a', 0}, 2},
		"the same cell in two runs, later":      {[]byte{1, 'b', 0, 2, 'a', 2, 1, 'a', 2}, 4},
		"a first run beyond the line's end":     {[]byte{3, 'a', 0}, 2},
		"a last run beyond the line's end":      {[]byte{1, 'b', 0, 3, 'a', 0}, 3},
		"a run of 2^62":                         {append(vary.Put(nil, 1<<62), 'a', 0), 2},
		"a run of 2^63 - 1":                     {append(vary.Put(nil, math.MaxInt64), 'a', 0), 2},
		"a run of 2^63":                         {append(vary.Put(nil, 1<<63), 'a', 0), 2},
		"a run of 2^64 - 1":                     {append(vary.Put(nil, math.MaxUint64), 'a', 0), 2},
		"a run of 2^63 - 1 behind one of 1":     {append(vary.Put([]byte{1, 'a', 0}, math.MaxInt64), 'b', 0), math.MaxInt},
		"a Fore of 9":                           {[]byte{1, 'a', 9}, 1},
		"a Back of 9":                           {append([]byte{1, 'a'}, vary.Put(nil, 144)...), 1},
		"a number that no style has":            {append([]byte{1, 'a'}, vary.Put(nil, 2048)...), 1},
		"a style's number, longer than need be": {[]byte{1, 'a', 0x80, 0}, 1},
		"a wide rune alone":                     {vary.Put(nil, 1, uint64(wide), 0), 1},
		"a wide rune ahead of a narrow one":     {vary.Put(nil, 1, uint64(wide), 0, 1, 'a', 0), 2},
		"two wide runes as one run":             {vary.Put(nil, 2, uint64(wide), 0), 2},
		"two wide runes with one rest":          {vary.Put(nil, 2, uint64(wide), 0, 1, 0, 0), 3},
		"a wide rune with two rests":            {vary.Put(nil, 1, uint64(wide), 0, 2, 0, 0), 3},
		"a rest of another style":               {vary.Put(nil, 1, uint64(wide), 0, 1, 0, 2), 2},
		"a rest alone":                          {[]byte{1, 0, 0}, 1},
		"a rest first":                          {[]byte{1, 0, 0, 1, 'a', 0}, 2},
		"a rest behind a narrow one":            {[]byte{1, 'a', 0, 1, 0, 0}, 2},
		"a rest behind the line's end":          {vary.Put(nil, 1, uint64(wide), 0, 1, 0, 0), 1},
	} {
		noLine(t, name, x.b, x.w)
	}
}

func TestTakeLineOfWrongRunes(t *testing.T) {
	for _, n := range []uint64{1, 7, 27, 31, 127, 0xD800, 0xDFFF, 0x110000, 0x110061, 1<<32 + 'a', 1<<33 + 'a', 1<<32 - 1, 1<<32 - 'a', 1<<63 + 'a', math.MaxUint64} {
		for _, count := range []uint64{1, 2, 5} {
			noLine(t, "a rune that may not be", vary.Put(nil, count, n, 0), int(count))
			noLine(t, "behind one that may", vary.Put(nil, 1, 'b', 0, count, n, 0), int(count)+1)
		}
	}
}

func TestTakeLineOfBytesThatAreCutOff(t *testing.T) {
	l := joined(times(200, narrow(every)), withRest(wide, red), line(narrow(plain)), times(2, empty(every)))
	b := cell.PutLine(nil, l)
	for cut := range len(b) {
		noLine(t, "cut off", b[:cut], len(l))
	}
	for i := range len(b) {
		wrong := slices.Clone(b)
		wrong[i] ^= 0x80
		if got, ok := cell.TakeLine(vary.Of(wrong), len(l)); ok && sameLine(got, l) {
			t.Errorf("% X: the line comes back, though a byte is another one", wrong)
		}
	}
	r := vary.Of(append([]byte{5}, b...))
	if r.Num(5); r.Good() {
		t.Fatal("a number that may not be is read")
	}
	if got, ok := cell.TakeLine(r, len(l)); ok || len(got) != 0 {
		t.Errorf("of a reader that is bad: %v, %v", got, ok)
	}
}

// P0: bytes that are no line's end the call, however many cells they tell of.
func TestTakeLineOfHugeNumbers(t *testing.T) {
	for _, w := range []int{1 << 31, 1 << 40, 1 << 62, math.MaxInt - 1, math.MaxInt} {
		b := vary.Put(nil, uint64(w)-1, 'a', 0)
		noLine(t, "a long run, and nothing behind it", b, w)
		noLine(t, "a long run, and a wide rune alone", vary.Put(b, 1, uint64(wide), 0), w)
		noLine(t, "a long run, and one beyond the end", vary.Put(b, 2, 'b', 0), w)
		noLine(t, "a long run of wide runes", vary.Put(nil, uint64(w), uint64(wide), 0), w)
		noLine(t, "a long run of rests", vary.Put(nil, uint64(w), 0, 0), w)
		noLine(t, "a long run of runes that may not be", vary.Put(nil, uint64(w), 7, 0), w)
	}
	for _, w := range []int{-1, -2, math.MinInt} {
		noLine(t, "fewer cells than none", []byte{1, 'a', 0}, w)
	}
}

func TestTakeLineAnswersNewMemory(t *testing.T) {
	b := vary.Put(nil, 2, 'a', 0)
	one, _ := cell.TakeLine(vary.Of(b), 2)
	two, _ := cell.TakeLine(vary.Of(b), 2)
	clear(one)
	if !sameLine(two, times(2, narrow(plain))) || !bytes.Equal(b, []byte{2, 'a', 0}) {
		t.Errorf("one answer is another one's: %v, % X", two, b)
	}
}
