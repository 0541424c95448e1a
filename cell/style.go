package cell

import (
	"flipbook/api"
	"flipbook/vary"
)

const (
	colours = 8 // the greatest one; 0 is none

	// One less than the parameters of the first colours.
	foreParam = 29
	backParam = 39

	// What a style's number is made of: Fore, so many times Back, and these for what else it has.
	backPart   = 16
	boldPart   = 256
	underPart  = 512
	turnedPart = 1024
	allParts   = 2048 // each style's number is below it
)

// Style: may it be one: colours from 0 to 8?
func Style(s api.Style) bool { return colour(s.Fore) && colour(s.Back) }

func colour(n int) bool { return 0 <= n && n <= colours }

// Change: a style behind parameters (none: 0).
func Change(s api.Style, params ...int) api.Style {
	if len(params) == 0 {
		return api.Style{}
	}
	for _, p := range params {
		s = changeOne(s, p)
	}
	return s
}

func changeOne(s api.Style, p int) api.Style {
	switch {
	case p == 0:
		return api.Style{}
	case p == 1 || p == 22:
		s.Bold = p == 1
	case p == 4 || p == 24:
		s.Under = p == 4
	case p == 7 || p == 27:
		s.Turned = p == 7
	case 30 <= p && p <= 37:
		s.Fore = p - foreParam
	case p == 39:
		s.Fore = 0
	case 40 <= p && p <= 47:
		s.Back = p - backParam
	case p == 49:
		s.Back = 0
	}
	return s
}

// Params: parameters that make a style of any one: 0 first.
func Params(s api.Style) []int {
	out := []int{0}
	if s.Bold {
		out = append(out, 1)
	}
	if s.Under {
		out = append(out, 4)
	}
	if s.Turned {
		out = append(out, 7)
	}
	if s.Fore != 0 {
		out = append(out, foreParam+s.Fore)
	}
	if s.Back != 0 {
		out = append(out, backParam+s.Back)
	}
	return out
}

// PutStyle: a style's bytes behind others.
func PutStyle(b []byte, s api.Style) []byte { return vary.Put(b, number(s)) }

// TakeStyle: the next style; false: there is none.
func TakeStyle(r *vary.Reader) (api.Style, bool) {
	s := styleOf(r.Num(allParts))
	if !r.Good() || !Style(s) {
		return api.Style{}, false
	}
	return s, true
}

func number(s api.Style) uint64 {
	n := uint64(s.Fore) + backPart*uint64(s.Back)
	if s.Bold {
		n += boldPart
	}
	if s.Under {
		n += underPart
	}
	if s.Turned {
		n += turnedPart
	}
	return n
}

// The style need not be right: there is room for colours up to 15 in a number.
func styleOf(n int) api.Style {
	return api.Style{
		Bold:   n&boldPart != 0,
		Under:  n&underPart != 0,
		Turned: n&turnedPart != 0,
		Fore:   n % backPart,
		Back:   n % boldPart / backPart,
	}
}
