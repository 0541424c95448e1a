package vt_test

import (
	"math"
	"slices"
	"strings"
	"testing"

	"flipbook/utf"
	"flipbook/vt"
)

// What is handed in isn't changed: neither the parameters nor the room behind them.
func TestFeedLeavesItsParserAsItIs(t *testing.T) {
	for _, p := range ofEachState() {
		for c := range 256 {
			room := append(slices.Clone(p.Params), -1, -2, -3)
			before := slices.Clone(room)
			q := p
			q.Params = room[:len(p.Params)]
			q.Feed(byte(c))
			q.All(string([]byte{byte(c), '5', ';', '6', 'm'}))
			if !slices.Equal(room, before) || !same(p, q) {
				t.Fatalf("%+v, byte %d: %v, %+v", p, c, room, q)
			}
		}
	}
}

// A parser may be gone on from twice: neither way has anything of the other one.
func TestTwoWaysFromOneParser(t *testing.T) {
	for _, p := range ofEachState() {
		for _, a := range []string{"1", ";1", "?1", "x", "\x1b[3;4", "\xc3"} {
			for _, b := range []string{"2", ";2", "$2", "y", "\x1b[5;6", "\xc4"} {
				first, _ := p.All(a)
				second, _ := p.All(b)
				alone, _ := modelled(lead(p) + a)
				other, _ := modelled(lead(p) + b)
				if !same(first, alone) || !same(second, other) {
					t.Errorf("%+v, %q and %q: %+v, %+v", p, a, b, first, second)
				}
			}
		}
	}
}

// An act's parameters are its own: neither a parser's nor another act's.
func TestActsAreNewMemory(t *testing.T) {
	p := entry("?", 1, 2)
	q, told := p.Feed('h')
	again, same := p.Feed('h')
	told[0].Params[0] = 77
	told[0].Params = append(told[0].Params, 78)
	p.Params[1] = 79
	if !sameActs(same, acts(csi("?", 'h', 1, 2))) || p.Params[0] != 1 || told[0].Params[1] != 2 || len(q.Params) != 0 || len(again.Params) != 0 {
		t.Errorf("%+v, %+v, %+v", p, told, same)
	}
	_, l := vt.Parser{}.All("\x1b[1;2m\x1b[1;2m\x1b[3m")
	for i := range l {
		_ = append(l[i].Params, 80)
		l[i].Params[0] = 81 + i
	}
	if !sameActs(l, acts(csi("", 'm', 81, 2), csi("", 'm', 82, 2), csi("", 'm', 83))) {
		t.Errorf("%+v", l)
	}
}

func TestTheSameCallsHaveTheSameOutcome(t *testing.T) {
	for _, s := range texts() {
		for _, p := range ofEachState() {
			a, told := p.All(s)
			b, more := p.All(s)
			if !same(a, b) || !sameActs(told, more) {
				t.Errorf("%+v, %q: %+v, %+v, and %+v, %+v", p, s, told, a, more, b)
			}
		}
	}
}

// Of a parser that isn't right nothing is said, but no call panics, and each one ends.
func TestWrongParsersDontPanic(t *testing.T) {
	long := strings.Repeat("x", 500)
	for _, state := range []int{-1, 0, 1, 2, 3, 4, 5, 6, 7, 8, math.MinInt, math.MaxInt} {
		for _, p := range []vt.Parser{
			{State: state},
			{State: state, Within: vt.Closing},
			{State: state, Within: -1, Text: long},
			{State: state, Marks: long, Params: make([]int, 50), Text: long},
			{State: state, Params: []int{math.MaxInt, math.MinInt}},
			{State: state, Utf: utf.Decoder{N: -1}},
			{State: state, Utf: utf.Decoder{Bytes: [3]byte{0xFF, 0xFF, 0xFF}, N: math.MaxInt}},
		} {
			p.Right()
			for c := range 256 {
				p.Feed(byte(c))
				p.All(string([]byte{byte(c), 27, byte(c), '9'}))
			}
		}
	}
}
