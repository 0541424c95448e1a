package cut_test

import (
	"fmt"
	"math"
	"slices"
	"testing"

	"flipbook/api"
	"flipbook/cut"
	"flipbook/log"
	"flipbook/state"
)

func afters(r *log.Rec) []int {
	var l []int
	for _, k := range r.Keys {
		l = append(l, k.After)
	}
	return l
}

// The words as literals: how many events there are, how often a key is asked for, and where they stand.
func TestKeyedSmall(t *testing.T) {
	for _, c := range []struct {
		n, every int
		want     []int
	}{
		{0, math.MinInt, nil},
		{0, -1, nil},
		{0, 0, nil},
		{0, 1, nil},
		{0, 8, nil},
		{0, math.MaxInt, nil},
		{1, -1, nil},
		{1, 0, nil},
		{1, 1, []int{1}},
		{1, 2, nil},
		{1, 8, nil},
		{7, 1, []int{1, 2, 3, 4, 5, 6, 7}},
		{7, 2, []int{2, 4, 6}},
		{7, 7, []int{7}},
		{7, 8, nil},
		{8, 2, []int{2, 4, 6, 8}},
		{8, 3, []int{3, 6}},
		{8, 7, []int{7}},
		{8, 8, []int{8}},
		{8, 9, nil},
		{9, 8, []int{8}},
		{9, 9, []int{9}},
		{9, 10, nil},
		{9, 4, []int{4, 8}},
		{9, 5, []int{5}},
		{16, 7, []int{7, 14}},
		{16, 8, []int{8, 16}},
		{16, 9, []int{9}},
		{16, 16, []int{16}},
		{16, 17, nil},
		{17, 8, []int{8, 16}},
		{17, -8, nil},
		{17, math.MinInt, nil},
		{17, math.MinInt + 1, nil},
		{17, math.MaxInt, nil},
		{17, 1 << 32, nil},
		{17, 1<<32 + 1, nil},
		{25, 12, []int{12, 24}},
	} {
		m := letters(c.n, 2)
		for _, m.keys = range [][]int{nil, {0}, {c.n}, {c.n / 2}, upTo(0, c.n)} {
			r := cut.Keyed(m.rec(), c.every)
			if got := afters(r); !slices.Equal(got, c.want) {
				t.Errorf("%d events, every %d: keys %v, want %v", c.n, c.every, got, c.want)
			}
			expectRec(t, fmt.Sprint(c.n, c.every), r, model{m.start, m.events, c.want})
		}
	}
}

// Each state is that behind just so many events, on the beginning, whatever that is.
func TestKeyedStates(t *testing.T) {
	m := model{start: written(4, 2, "xy"), events: []api.Event{
		{Time: 0, Data: "a"},
		{Time: 0, Kind: api.In, Data: "b"},
		{Time: 1, Kind: api.Size, W: 2, H: 3},
		{Time: 1, Kind: api.Mark, Data: "c"},
		{Time: 9, Data: "\x1b[2Jd"},
	}}
	wants := []string{"xya||", "xya||", "xy|||", "xy|||", " d|||"}
	r := cut.Keyed(m.rec(), 1)
	for i, k := range r.Keys {
		x, e := state.Decode(k.State)
		if e != api.OK || k.After != i+1 || screen(x) != wants[i] {
			t.Errorf("key %d: After %d, %q, want %q", i, k.After, screen(x), wants[i])
		}
	}
	if len(r.Keys) != 5 {
		t.Errorf("%d keys", len(r.Keys))
	}
}

// Each number of events with each distance up to more than there are, and all kinds of events, and what Encode, Decode tell of it.
func TestKeyedOfChance(t *testing.T) {
	d := dice(2)
	for n := range 20 {
		m := chance(&d, n, 0, 0, 1, 5)
		for every := -2; every <= n+2; every++ {
			r := m.rec()
			got := cut.Keyed(r, every)
			what := fmt.Sprint("every ", every, " of ", n)
			expectRec(t, what, got, m.keyed(every))
			expectBytes(t, what, got, m.keyed(every))
			expectRec(t, what+" as it was", r, m)
		}
	}
}

// The keys that were there play no part, wrong ones neither; keyed anew it has the new ones alone.
func TestKeyedAnew(t *testing.T) {
	m := letters(20, 3)
	for _, first := range []int{0, 1, 3, 8, 20, 21} {
		for _, then := range []int{0, 1, 3, 8, 20, 21} {
			expectRec(t, "keyed anew", cut.Keyed(cut.Keyed(m.rec(), first), then), m.keyed(then))
		}
	}
	r := m.rec()
	r.Keys = []log.Key{{After: 8, State: []byte("wrong")}, {After: 100}, {After: -3, State: []byte(blank(1, 1))}}
	expectRec(t, "wrong keys", cut.Keyed(r, 8), m.keyed(8))
}
