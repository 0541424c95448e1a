package vt_test

import (
	"math/big"
	"regexp"
	"strconv"
	"strings"
	"unicode/utf8"

	"flipbook/api"
	"flipbook/vt"
)

// A model tells a whole text's acts by the chapter's words, but not from state to state: it parts the text into runs, sequences and strings, and reads each of them by its form.
type model struct {
	rest string
	told []api.Act
	end  vt.Parser // what is under way where the text ends
}

// modelled: what a text tells from the zero parser on, and the parser behind it.
func modelled(s string) (vt.Parser, []api.Act) {
	m := &model{rest: s}
	for m.rest != "" {
		m.run()
	}
	return m.end, m.told
}

func (m *model) take(n int) string {
	s := m.rest[:n]
	m.rest = m.rest[n:]
	return s
}

func (m *model) tell(l ...api.Act) { m.told = append(m.told, l...) }

// run: all that is shown up to the next byte that steers, and that byte.
func (m *model) run() {
	n := 0
	for n < len(m.rest) && m.rest[n] >= 32 && m.rest[n] != 127 {
		n++
	}
	s := m.take(n)
	if m.rest == "" {
		left := unfinished(s)
		m.end.Utf.N = copy(m.end.Utf.Bytes[:], left)
		m.tell(runes(strings.TrimSuffix(s, left))...)
		return
	}
	m.tell(runes(s)...)
	if c := m.take(1)[0]; c != 27 {
		m.tell(exec(c))
	} else {
		m.sequence()
	}
}

// unfinished: the bytes at the end of a text that begin a rune which isn't whole.
func unfinished(s string) string {
	for n := 1; n <= min(len(s), 3); n++ {
		if left := s[len(s)-n:]; !utf8.FullRuneInString(left) {
			return left
		}
	}
	return ""
}

var (
	isEsc     = regexp.MustCompile(`^([ -/]*)([0-OQ-Z\\^-~]|[ -/][P\[\]])$`)
	isCsi     = regexp.MustCompile(`^\[([ -?]*)([@-~])$`)
	notMarks  = regexp.MustCompile(`[^ -/<-?]`)
	notParams = regexp.MustCompile(`[^0-9;]`)
)

// sequence: all behind an ESC.
func (m *model) sequence() {
	body := ""
	for m.rest != "" {
		c := m.take(1)[0]
		switch {
		case c == 24 || c == 26:
			return
		case c == 27:
			body = ""
		case c < 32:
			m.tell(exec(c))
		case c < 127:
			body += string(rune(c))
			if m.whole(body) {
				return
			}
		}
	}
	m.end = begun(body)
}

// whole: is a sequence at its end, and what does it tell then?
func (m *model) whole(body string) bool {
	last := body[len(body)-1]
	switch {
	case body == "]" || body == "P":
		m.text(body == "P")
	case isEsc.MatchString(body):
		m.tell(esc(firstTwo(body[:len(body)-1]), last))
	case isCsi.MatchString(body):
		if p := begun(body[:len(body)-1]); p.State == vt.Entry {
			m.tell(csi(p.Marks, last, p.Params...))
		}
	default:
		return false
	}
	return true
}

// begun: the parser behind an ESC and these bytes, which are no whole sequence.
func begun(body string) vt.Parser {
	if body == "" {
		return escape
	}
	if body[0] != '[' {
		return marks(firstTwo(body))
	}
	m := notMarks.ReplaceAllString(body[1:], "")
	p := entry(firstTwo(m), params(body)...)
	if len(m) > 2 || strings.Contains(body, ":") {
		p.State = vt.Strange
	}
	return p
}

func firstTwo(s string) string { return s[:min(len(s), 2)] }

// params: those that are parted by semicolons; what is parted off behind the last one that may be belongs to it.
func params(body string) (l []int) {
	digits := notParams.ReplaceAllString(body, "")
	if digits == "" {
		return nil
	}
	parts := strings.SplitN(digits, ";", 8)
	for _, s := range parts {
		n, ok := new(big.Int).SetString("0"+strings.ReplaceAll(s, ";", ""), 10)
		if !ok {
			panic(s)
		}
		if n.Cmp(big.NewInt(9999)) > 0 {
			n = big.NewInt(9999)
		}
		l = append(l, int(n.Int64()))
	}
	return l
}

// text: all behind ESC ] or ESC P.
func (m *model) text(isDevice bool) {
	p, kind, stops := str, osc, "\x07\x18\x1a\x1b"
	if isDevice {
		p, kind, stops = device, dcs, "\x18\x1a\x1b"
	}
	n := strings.IndexAny(m.rest, stops)
	if n < 0 {
		n = len(m.rest)
	}
	text := ofText(m.take(n))
	switch {
	case m.rest == "":
		m.end = with(p, text)
	case m.rest == "\x1b":
		m.take(1)
		m.end = closing(p.State, text)
	case m.rest[0] == 7:
		m.take(1)
		m.tell(kind(text))
	case strings.HasPrefix(m.rest, "\x1b\\"):
		m.take(2)
		m.tell(kind(text))
	default:
		if m.take(1) == "\x1b" {
			m.sequence()
		}
	}
}

// ofText: the bytes that a string has of those that stand in it.
func ofText(s string) string {
	var l []byte
	for i := range len(s) {
		if s[i] >= 32 {
			l = append(l, s[i])
		}
	}
	return string(l[:min(len(l), 40)])
}

// lead: bytes that lead from the zero parser to this one.
func lead(p vt.Parser) string {
	switch p.State {
	case vt.Ground:
		return string(p.Utf.Bytes[:p.Utf.N])
	case vt.Escape, vt.Marks:
		return "\x1b" + p.Marks
	case vt.Entry:
		return "\x1b[" + p.Marks + joined(p.Params)
	case vt.Strange:
		return "\x1b[:" + p.Marks + joined(p.Params)
	case vt.String:
		return "\x1b]" + p.Text
	case vt.Device:
		return "\x1bP" + p.Text
	}
	return lead(vt.Parser{State: p.Within, Text: p.Text}) + "\x1b"
}

func joined(params []int) string {
	l := make([]string, len(params))
	for i, n := range params {
		l[i] = strconv.Itoa(n)
	}
	return strings.Join(l, ";")
}
