package vt_test

import (
	"math"
	"strings"
	"testing"

	"flipbook/api"
	"flipbook/utf"
	"flipbook/vt"
)

const states = vt.Closing + 1

func expectRight(t *testing.T, p vt.Parser, want bool) {
	t.Helper()
	if p.Right() != want {
		t.Errorf("Right of %+v: %v", p, !want)
	}
}

func TestRightOfEachState(t *testing.T) {
	for _, p := range ofEachState() {
		expectRight(t, p, true)
	}
}

func TestRightOfStatesThatThereAreNoneOf(t *testing.T) {
	for _, state := range []int{-1, states, states + 1, -8, 256, 1 << 32, math.MaxInt, math.MinInt} {
		expectRight(t, vt.Parser{State: state}, false)
		expectRight(t, vt.Parser{State: state, Text: "a"}, false)
	}
}

// What a state isn't said to have makes each parser of it wrong.
func TestRightOfWhatAStateHasNot(t *testing.T) {
	has := map[int]string{
		vt.Ground: "utf", vt.Escape: "", vt.Marks: "marks", vt.Entry: "marks params", vt.Strange: "marks params",
		vt.String: "text", vt.Device: "text", vt.Closing: "text within",
	}
	for _, p := range ofEachState() {
		for what, q := range map[string]vt.Parser{
			"utf":    {State: p.State, Utf: utf.Decoder{Bytes: [3]byte{0xC3}, N: 1}, Marks: p.Marks, Params: p.Params, Text: p.Text, Within: p.Within},
			"marks":  {State: p.State, Utf: p.Utf, Marks: "(", Params: p.Params, Text: p.Text, Within: p.Within},
			"params": {State: p.State, Utf: p.Utf, Marks: p.Marks, Params: []int{0}, Text: p.Text, Within: p.Within},
			"text":   {State: p.State, Utf: p.Utf, Marks: p.Marks, Params: p.Params, Text: "a", Within: p.Within},
			"within": {State: p.State, Utf: p.Utf, Marks: p.Marks, Params: p.Params, Text: p.Text, Within: vt.Device},
		} {
			expectRight(t, q, strings.Contains(has[p.State], what))
		}
	}
}

// Two that it isn't said to have don't make up for one another.
func TestRightOfALotThatAStateHasNot(t *testing.T) {
	for state := range states {
		p := vt.Parser{State: state, Utf: utf.Decoder{Bytes: [3]byte{0xC3}, N: 1}, Marks: "(", Params: []int{1}, Text: "a", Within: vt.String}
		expectRight(t, p, false)
	}
}

func TestRightOfDecoders(t *testing.T) {
	wrong := []utf.Decoder{
		{N: 1}, {N: 4}, {N: -1}, {Bytes: [3]byte{0xC3}}, {Bytes: [3]byte{'a'}, N: 1}, {Bytes: [3]byte{0xE2, 0x82, 0xAC}, N: 3}, {Bytes: [3]byte{0xC3, 0, 1}, N: 1},
	}
	for state := range states {
		for _, d := range wrong {
			expectRight(t, vt.Parser{State: state, Utf: d}, false)
		}
	}
	expectRight(t, vt.Parser{Utf: utf.Decoder{Bytes: [3]byte{0xF4, 0x8F, 0xBF}, N: 3}}, true)
}

// Each byte as a mark: the only one, the first one, the second one.
func TestRightOfMarks(t *testing.T) {
	for i := range 256 {
		c := string([]byte{byte(i)})
		low := i >= 32 && i <= 47
		for _, m := range []string{c, c + "/", " " + c} {
			expectRight(t, marks(m), low)
			expectRight(t, entry(m), low || i >= 60 && i <= 63)
			expectRight(t, strange(m), low || i >= 60 && i <= 63)
		}
		expectRight(t, marks("(("+c), false)
		expectRight(t, entry("(("+c), false)
		expectRight(t, strange("(("+c), false)
	}
	expectRight(t, marks(""), false)
	expectRight(t, entry(""), true)
	expectRight(t, strange(""), true)
}

func TestRightOfParameters(t *testing.T) {
	for _, state := range []int{vt.Entry, vt.Strange} {
		of := func(l ...int) vt.Parser { return vt.Parser{State: state, Params: l} }
		for _, n := range []int{0, 1, 9998, api.MaxParam} {
			expectRight(t, of(n), true)
			expectRight(t, of(0, n), true)
		}
		for _, n := range []int{-1, api.MaxParam + 1, math.MaxInt, math.MinInt} {
			expectRight(t, of(n), false)
			expectRight(t, of(n, 0), false)
			expectRight(t, of(0, 0, 0, 0, 0, 0, 0, n), false)
		}
		expectRight(t, of(make([]int, api.MaxParams)...), true)
		expectRight(t, of(make([]int, api.MaxParams+1)...), false)
	}
	for state := range states {
		if state != vt.Marks && state != vt.Closing {
			expectRight(t, vt.Parser{State: state, Params: []int{}}, true)
		}
	}
}

func TestRightOfTexts(t *testing.T) {
	long := strings.Repeat("x", api.MaxText)
	for _, p := range []vt.Parser{str, device, closing(vt.String, ""), closing(vt.Device, "")} {
		for i := range 256 {
			c := string([]byte{byte(i)})
			expectRight(t, with(p, c), i >= 32)
			expectRight(t, with(p, long[1:]+c), i >= 32)
			expectRight(t, with(p, c+"xx"), i >= 32)
		}
		expectRight(t, with(p, ""), true)
		expectRight(t, with(p, long), true)
		expectRight(t, with(p, long+"x"), false)
	}
}

func TestRightOfWithin(t *testing.T) {
	for within := -2; within < 12; within++ {
		expectRight(t, closing(within, "a"), within == vt.String || within == vt.Device)
		expectRight(t, closing(within, ""), within == vt.String || within == vt.Device)
	}
}
