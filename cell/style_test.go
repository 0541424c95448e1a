package cell_test

import (
	"bytes"
	"math"
	"slices"
	"testing"

	"flipbook/api"
	"flipbook/cell"
	"flipbook/vary"
)

// changes: what each parameter that changes something makes of a style, as the chapter lists them.
func changes() map[int]func(s *api.Style) {
	l := map[int]func(s *api.Style){
		0:  func(s *api.Style) { *s = api.Style{} },
		1:  func(s *api.Style) { s.Bold = true },
		22: func(s *api.Style) { s.Bold = false },
		4:  func(s *api.Style) { s.Under = true },
		24: func(s *api.Style) { s.Under = false },
		7:  func(s *api.Style) { s.Turned = true },
		27: func(s *api.Style) { s.Turned = false },
		39: func(s *api.Style) { s.Fore = 0 },
		49: func(s *api.Style) { s.Back = 0 },
	}
	for i, p := range []int{30, 31, 32, 33, 34, 35, 36, 37} {
		l[p] = func(s *api.Style) { s.Fore = i + 1 }
	}
	for i, p := range []int{40, 41, 42, 43, 44, 45, 46, 47} {
		l[p] = func(s *api.Style) { s.Back = i + 1 }
	}
	return l
}

func TestChangeByEachParameter(t *testing.T) {
	all := changes()
	params := []int{math.MinInt, math.MinInt + 1, -256, -100, api.MaxParam, 1 << 32, 1<<32 + 1, 1<<32 + 31, math.MaxInt}
	for p := range 300 {
		params = append(params, p-50)
	}
	for _, p := range params {
		for _, s := range rightStyles() {
			want := s
			if f := all[p]; f != nil {
				f(&want)
			}
			if got := cell.Change(s, p); got != want {
				t.Errorf("%v behind %d: %v, want %v", s, p, got, want)
			}
		}
	}
}

func TestChangeByLists(t *testing.T) {
	for _, x := range []struct {
		s      api.Style
		params []int
		want   api.Style
	}{
		{plain, []int{1, 31}, api.Style{Bold: true, Fore: 2}},
		{plain, []int{1, 31, 44}, api.Style{Bold: true, Fore: 2, Back: 5}},
		{plain, nil, plain},
		{every, nil, plain},
		{every, []int{}, plain},
		{every, []int{0}, plain},
		{every, []int{0, 4}, api.Style{Under: true}},
		{every, []int{4, 0}, plain},
		{every, []int{31, 0, 42}, api.Style{Back: 3}},
		{every, []int{39, 49}, api.Style{Bold: true, Under: true, Turned: true}},
		{every, []int{22, 24, 27}, api.Style{Fore: 8, Back: 8}},
		{plain, []int{1, 22}, plain},
		{plain, []int{22, 1}, api.Style{Bold: true}},
		{plain, []int{30, 37, 33}, api.Style{Fore: 4}},
		{plain, []int{47, 40}, api.Style{Back: 1}},
		{red, []int{-1, 38, 48, 5, 29, 50, 99, api.MaxParam}, red},
		{red, []int{38, 5, 1}, api.Style{Bold: true, Fore: 2}},
		{plain, []int{1, 4, 7, 37, 47}, every},
	} {
		was := slices.Clone(x.params)
		if got := cell.Change(x.s, x.params...); got != x.want {
			t.Errorf("%v behind %v: %v, want %v", x.s, x.params, got, x.want)
		}
		if !slices.Equal(x.params, was) {
			t.Errorf("the parameters that were handed in are %v", x.params)
		}
	}
	for _, s := range append(rightStyles(), wrongStyles()...) {
		if got := cell.Change(s); got != plain {
			t.Errorf("%v behind no parameters: %v", s, got)
		}
	}
}

func TestParams(t *testing.T) {
	for _, x := range []struct {
		s    api.Style
		want []int
	}{
		{plain, []int{0}},
		{every, []int{0, 1, 4, 7, 37, 47}},
		{api.Style{Bold: true}, []int{0, 1}},
		{api.Style{Under: true}, []int{0, 4}},
		{api.Style{Turned: true}, []int{0, 7}},
		{api.Style{Fore: 1}, []int{0, 30}},
		{api.Style{Fore: 8}, []int{0, 37}},
		{api.Style{Back: 1}, []int{0, 40}},
		{api.Style{Back: 8}, []int{0, 47}},
		{api.Style{Turned: true, Back: 3}, []int{0, 7, 42}},
		{api.Style{Bold: true, Fore: 2, Back: 5}, []int{0, 1, 31, 44}},
	} {
		if got := cell.Params(x.s); !slices.Equal(got, x.want) {
			t.Errorf("Params(%v): %v, want %v", x.s, got, x.want)
		}
	}
}

// Whatever a style was, it is s behind the parameters of s; and these are in order, each once.
func TestParamsMakeTheStyleOfAnyOne(t *testing.T) {
	for _, s := range rightStyles() {
		l := cell.Params(s)
		for _, from := range []api.Style{plain, red, every, s, coloured(-1, 9)} {
			if got := cell.Change(from, l...); got != s {
				t.Errorf("%v behind %v: %v, want %v", from, l, got, s)
			}
		}
		for i := range len(l) - 1 {
			if l[i] >= l[i+1] {
				t.Errorf("Params(%v): %v", s, l)
			}
		}
	}
}

func TestPutStyle(t *testing.T) {
	for _, x := range []struct {
		s api.Style
		n uint64
	}{
		{plain, 0}, {coloured(1, 0), 1}, {coloured(8, 0), 8}, {coloured(0, 1), 16}, {coloured(0, 8), 128}, {coloured(7, 8), 135},
		{api.Style{Bold: true}, 256}, {api.Style{Under: true}, 512}, {api.Style{Turned: true}, 1024},
		{api.Style{Under: true, Back: 1}, 528}, {api.Style{Bold: true, Fore: 2, Back: 5}, 338}, {every, 1928},
	} {
		want := vary.Put(nil, x.n)
		if b := cell.PutStyle(nil, x.s); !bytes.Equal(b, want) {
			t.Errorf("%v: % X, want % X", x.s, b, want)
		}
		for _, room := range []int{0, 1, 100} {
			ahead := append(make([]byte, 0, 2+room), 9, 0xFF)
			if b := cell.PutStyle(ahead, x.s); !bytes.Equal(b, append([]byte{9, 0xFF}, want...)) || !bytes.Equal(ahead, []byte{9, 0xFF}) {
				t.Errorf("%v behind bytes: % X, and these are % X", x.s, b, ahead)
			}
		}
	}
}

// Each style comes back from its bytes, whatever stands behind them, and the reader is behind them.
func TestStylesComeBack(t *testing.T) {
	var all []byte
	for _, s := range rightStyles() {
		r := vary.Of(cell.PutStyle(nil, s))
		if got, ok := cell.TakeStyle(r); !ok || got != s || !r.Done() {
			t.Errorf("%v comes back as %v, %v", s, got, ok)
		}
		all = cell.PutStyle(all, s)
	}
	r := vary.Of(append(all, 0x80))
	for _, s := range rightStyles() {
		if got, ok := cell.TakeStyle(r); !ok || got != s {
			t.Errorf("%v, one of all, comes back as %v, %v", s, got, ok)
		}
	}
	if s, ok := cell.TakeStyle(r); ok || s != plain {
		t.Errorf("behind the last one: %v, %v", s, ok)
	}
}

// A number that PutStyle writes for a right style is one's, and no other number is.
func TestTakeStyleOfEachNumber(t *testing.T) {
	styles := map[uint64]api.Style{}
	for _, s := range rightStyles() {
		n, _ := vary.Take(cell.PutStyle(nil, s))
		styles[n] = s
	}
	if len(styles) != 8*9*9 {
		t.Errorf("unlike styles have %d numbers", len(styles))
	}
	numbers := []uint64{1 << 16, 1 << 20, 1<<31 - 1, 1 << 31, 1 << 32, 1<<32 + 1, 1<<48 + 256, math.MaxInt64, 1 << 63, 1<<63 + 1, math.MaxUint64}
	for n := range uint64(10000) {
		numbers = append(numbers, n)
	}
	for _, n := range numbers {
		want, there := styles[n]
		if got, ok := cell.TakeStyle(vary.Of(vary.Put(nil, n, 0))); ok != there || got != want {
			t.Errorf("number %d: %v, %v", n, got, ok)
		}
	}
}

func TestTakeStyleOfWrongBytes(t *testing.T) {
	for _, b := range [][]byte{nil, {}, {0x80}, {0x90}, {0x80, 0}, {0x88, 0}, {0x80, 0x80, 0}, {0xFF}, bytes.Repeat([]byte{0xFF}, 20),
		{9}, {15}, {0x90, 1}, {0x99, 1}, {0xFF, 1}, {0x80, 0x10}, {0x80, 0x80, 1}} {
		was := slices.Clone(b)
		if s, ok := cell.TakeStyle(vary.Of(b)); ok || s != plain {
			t.Errorf("% X: %v, %v", b, s, ok)
		}
		if !bytes.Equal(b, was) {
			t.Errorf("the bytes handed in are % X, not % X", b, was)
		}
	}
	r := vary.Of([]byte{5, 0, 0, 0})
	if r.Num(5); r.Good() {
		t.Fatal("a number that may not be is read")
	}
	if s, ok := cell.TakeStyle(r); ok || s != plain {
		t.Errorf("of a reader that is bad: %v, %v", s, ok)
	}
}

// P0: of styles that aren't right nothing is said, but each call ends.
func TestWrongStyles(t *testing.T) {
	for _, s := range wrongStyles() {
		cell.Params(s)
		cell.Change(s, cell.Params(s)...)
		if b := cell.PutStyle([]byte{1}, s); len(b) < 1 || b[0] != 1 {
			t.Errorf("%v: % X", s, b)
		}
	}
}
