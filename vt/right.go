package vt

import (
	"flipbook/api"
	"flipbook/utf"
)

// Right: is it of the form that its state has?
func (p Parser) Right() bool {
	right := true
	// What its state may have is looked at, and taken away: the rest is what it may not have.
	switch p.State {
	case Ground:
		right = p.Utf.Right()
		p.Utf = utf.Decoder{}
	case Escape:
	case Marks:
		right = p.Marks != "" && rightMarks(p.Marks, inEscape)
		p.Marks = ""
	case Entry, Strange:
		right = rightMarks(p.Marks, inEntry) && rightParams(p.Params)
		p.Marks, p.Params = "", nil
	case Closing:
		if p.Within != String && p.Within != Device {
			return false
		}
		p.Within = 0
		fallthrough
	case String, Device:
		right = rightText(p.Text)
		p.Text = ""
	default:
		return false
	}
	return right && p.bare()
}

// bare: has it nothing but its state?
func (p Parser) bare() bool {
	return p.Utf == utf.Decoder{} && p.Marks == "" && len(p.Params) == 0 && p.Text == "" && p.Within == 0
}

func rightMarks(s string, may func(byte) bool) bool {
	for i := range len(s) {
		if !may(s[i]) {
			return false
		}
	}
	return len(s) <= maxMarks
}

// inEscape: may it be a mark right behind ESC?
func inEscape(c byte) bool { return 32 <= c && c <= 47 }

// inEntry: may it be a mark behind ESC [ ?
func inEntry(c byte) bool { return inEscape(c) || 60 <= c && c <= 63 }

func rightParams(l []int) bool {
	for _, n := range l {
		if n < 0 || n > api.MaxParam {
			return false
		}
	}
	return len(l) <= api.MaxParams
}

func rightText(s string) bool {
	for i := range len(s) {
		if s[i] < 32 {
			return false
		}
	}
	return len(s) <= api.MaxText
}
