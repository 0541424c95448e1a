package json_test

import (
	other "encoding/json"
	"fmt"
	"strings"
	"testing"
	"unicode/utf8"

	"flipbook/json"
)

// signs: how each of the 128 first runes stands between the quotes, written out by other means than the package's own.
func signs() []string {
	l := make([]string, 128)
	for i := range l {
		l[i] = string(rune(i))
		if i < 32 || i == 127 {
			l[i] = fmt.Sprintf(`\u%04x`, i)
		}
	}
	l['\n'], l['\r'], l['"'], l['\\'] = `\n`, `\r`, `\"`, `\\`
	return l
}

// eachText: every text of at most n of these pieces.
func eachText(pieces []string, n int, visit func(string)) {
	visit("")
	if n == 0 {
		return
	}
	eachText(pieces, n-1, func(s string) {
		for _, p := range pieces {
			visit(s + p)
		}
	})
}

// texts: UTF-8 texts to write and to read back.
func texts() []string {
	l := []string{
		"", "a", `"`, `\`, `\"`, `"\`, `\\`, `\n`, `\u0009`, "\n", "\r", "\r\n", "\t", "\x00", "\x1f", " ", "~", "\x7f",
		"\u0080", "é", "\u07ff", "\u0800", "中", "\ud7ff", "\ue000", "\ufffd", "\uffff", "\U00010000", "😀", "\U0010ffff",
		"/", "<&>", "\u2028\u2029", "x\ufffdx", "a\tb\"c\\d\ne\rf\x01g\x7fh é中😀", strings.Repeat("\\\"\x02", 1000),
	}
	for i := range rune(0x300) {
		l = append(l, string(i), "x"+string(i)+"y")
	}
	eachText([]string{"a", `"`, `\`, "\n", "\x07", "n", "u", "é"}, 3, func(s string) { l = append(l, s) })
	return l
}

// expectText: s begins with the Quote of want, and left is behind it.
func expectText(t *testing.T, s, want, left string) {
	t.Helper()
	if x, rest, ok := json.Unquote(s); x != want || rest != left || !ok {
		t.Fatalf("%q: %q, %q, %v", s, x, rest, ok)
	}
}

// expectNoText: s begins with no text's Quote.
func expectNoText(t *testing.T, s string) {
	t.Helper()
	if x, rest, ok := json.Unquote(s); x != "" || rest != "" || ok {
		t.Fatalf("%q: %q, %q, %v", s, x, rest, ok)
	}
}

func TestQuoteOfTheExample(t *testing.T) {
	if s := json.Quote("\t"); s != `"\u0009"` {
		t.Error(s)
	}
}

func TestQuoteOfEachSign(t *testing.T) {
	for i, w := range signs() {
		if s := json.Quote(string(rune(i))); s != `"`+w+`"` {
			t.Errorf("%d: %s", i, s)
		}
		if s := json.Quote("é" + string(rune(i)) + "\x00"); s != `"é`+w+`\u0000"` {
			t.Errorf("%d: %s", i, s)
		}
	}
}

func TestQuoteOfOtherRunesIsTheyThemselves(t *testing.T) {
	for r := rune(128); r <= utf8.MaxRune; r++ {
		if !utf8.ValidRune(r) {
			continue
		}
		if s := json.Quote(string(r)); s != `"`+string(r)+`"` {
			t.Fatalf("%X: %s", r, s)
		}
	}
}

func TestQuoteOfBytesThatAreNoUTF8(t *testing.T) {
	for s, want := range map[string]string{
		"\xff":             "\ufffd",
		"\x80":             "\ufffd",
		"a\xffb":           "a\ufffdb",
		"\xff\xfe":         "\ufffd\ufffd",
		"\xc3":             "\ufffd",
		"\xc3\"":           "\ufffd\\\"",
		"\xe4\xb8":         "\ufffd\ufffd",
		"\xe4\xb8x":        "\ufffd\ufffdx",
		"\xed\xa0\x80":     "\ufffd\ufffd\ufffd",
		"\xc0\x80":         "\ufffd\ufffd",
		"\xf4\x90\x80\x80": "\ufffd\ufffd\ufffd\ufffd",
		"\xf0\x9f\x98":     "\ufffd\ufffd\ufffd",
		"\ufffd\xff":       "\ufffd\ufffd",
	} {
		if x := json.Quote(s); x != `"`+want+`"` {
			t.Errorf("% X: %s", s, x)
		}
	}
}

func TestQuoteIsReadByOthers(t *testing.T) {
	for _, s := range texts() {
		var x string
		if err := other.Unmarshal([]byte(json.Quote(s)), &x); err != nil || x != s {
			t.Fatalf("%q: %q, %v", s, x, err)
		}
	}
}

func TestTextsComeBack(t *testing.T) {
	for _, s := range texts() {
		q := json.Quote(s)
		for _, left := range []string{"", " ", `"`, `\`, "]", "a", "\x00", "\xff", "é", `"b"`, q} {
			expectText(t, q+left, s, left)
		}
	}
}

func TestBytesThatAreNoUTF8ComeBackAsTheRuneForThem(t *testing.T) {
	expectText(t, json.Quote("a\xffb")+"\xff", "a\ufffdb", "\xff")
}

func TestUnquoteRefusesATextWithoutItsLastQuote(t *testing.T) {
	for _, s := range texts() {
		q := json.Quote(s)
		for i := range len(q) {
			expectNoText(t, q[:i])
		}
	}
}

func TestUnquoteRefusesATextWithoutItsFirstQuote(t *testing.T) {
	for _, s := range []string{"", "a", ` "a"`, `a"`, `'a'`, `\"a"`, "\xff", "\n\"\"", "7", "\ufeff\"\""} {
		expectNoText(t, s)
	}
}

func TestUnquoteRefusesBytesThatAreNoUTF8(t *testing.T) {
	for _, s := range []string{
		"\xff", "\x80", "\xc3", "\xe4\xb8", "\xed\xa0\x80", "\xc0\x80", "\xf4\x90\x80\x80", "\xf0\x9f\x98", "\ufffd\xff", "\xef\xbf",
	} {
		expectNoText(t, `"`+s+`"`)
		expectNoText(t, `"a`+s+`b"`)
		expectNoText(t, `"\`+s+`"`)
	}
	expectText(t, "\"\ufffd\"\xff", "\ufffd", "\xff")
}

func TestUnquoteRefusesSignsThatQuoteWritesOtherwise(t *testing.T) {
	written := map[string]int{}
	for i, w := range signs() {
		written[w] = i + 1
	}
	check := func(w string) {
		t.Helper()
		if i := written[w]; i != 0 {
			expectText(t, `"`+w+`"]`, string(rune(i-1)), "]")
			return
		}
		expectNoText(t, `"`+w+`"]`)
		expectNoText(t, `"a`+w+`b"]`)
	}
	for i := range 0x10000 {
		check(fmt.Sprintf(`\u%04x`, i))
		if i < 0x1000 || i >= 0xD700 {
			check(fmt.Sprintf(`\u%04X`, i))
			check(fmt.Sprintf(`\U%04x`, i))
		}
	}
	for i := range 256 {
		if i < 32 || i == 127 {
			check(string(rune(i)))
		}
		if i != 'u' && i != '"' && i != '\\' {
			check(`\` + string([]byte{byte(i)}))
		}
		check(fmt.Sprintf(`\x%02x`, i))
		check(fmt.Sprintf(`\%03o`, i))
	}
}

func TestUnquoteRefusesEscapesThatEndEarlyOrHaveOtherDigits(t *testing.T) {
	for _, s := range []string{
		`"\`, `"\u`, `"\u0`, `"\u00`, `"\u000`, `"\u0009`, `"\"`, `"\\\"`, `"a\`,
		`"\u"`, `"\u0"`, `"\u00"`, `"\u000"`, `"\u9"`, `"\u09"`, `"\u009"`, `"\u+009"`, `"\u-009"`, `"\u 009"`, `"\u0_09"`, `"\u0x9"`, `"\u000g"`, "\"\\u000\xff\"",
		`"\u{9}"`,
	} {
		expectNoText(t, s)
	}
	expectText(t, `"\u00090"0`, "\t0", "0")
}

// expectAsQuoteHasIt: Unquote answers as the list of the Quotes of all short texts has it.
func expectAsQuoteHasIt(t *testing.T, s string, quotes map[string]string) {
	t.Helper()
	for i := range len(s) + 1 {
		if text, ok := quotes[s[:i]]; ok {
			expectText(t, s, text, s[i:])
			return
		}
	}
	expectNoText(t, s)
}

func TestUnquoteOfAllShortTexts(t *testing.T) {
	quotes := map[string]string{}
	eachText([]string{"n", "u", `"`, `\`, "\n", "0", "\x00", "é", "\xc3", "\xa9"}, 5, func(s string) {
		if utf8.ValidString(s) {
			quotes[json.Quote(s)] = s
		}
	})
	eachText([]string{`"`, `\`, "n", "u", "0", "\n", "\xc3", "\xa9"}, 5, func(s string) {
		expectAsQuoteHasIt(t, s, quotes)
		expectAsQuoteHasIt(t, `"`+s, quotes)
	})
}
