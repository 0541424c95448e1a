package utf_test

import (
	"fmt"
	"math"
	"slices"
	"testing"

	"flipbook/utf"
)

const wrong = '\uFFFD'

// of: the Decoder that has these bytes under way.
func of(s string) utf.Decoder {
	d := utf.Decoder{N: len(s)}
	for i := range len(s) {
		d.Bytes[i] = s[i]
	}
	return d
}

// expect: what a call answers: these runes are told, and these bytes are under way behind it.
func expect(t *testing.T, what string, d utf.Decoder, told []rune, want, left string) {
	t.Helper()
	if d != of(left) || !slices.Equal(told, []rune(want)) || !d.Right() {
		t.Errorf("%s: %U, and %v; want %U, and %v", what, told, d, []rune(want), of(left))
	}
}

// edges: runes of one to four bytes, the least and the greatest of each, and those beside the halves of pairs.
func edges() []rune {
	return []rune{0, 'A', 0x7F, 0x80, 'é', 0x7FF, 0x800, '中', 0xD7FF, 0xE000, 0xFFFD, 0xFFFF, 0x10000, 0x1F600, 0x10FFFF}
}

func TestFeedOfTheExample(t *testing.T) {
	d, told := utf.Decoder{}.Feed(0xE2)
	expect(t, "E2", d, told, "", "\xE2")
	d, told = d.Feed(0x41)
	expect(t, "E2 41", d, told, "\uFFFDA", "")
}

// A rune is told by its last byte, not by one ahead of it, and nothing is under way then.
func TestFeedOfRunes(t *testing.T) {
	for _, r := range edges() {
		s := string(r)
		d := utf.Decoder{}
		for i := range len(s) {
			var told []rune
			d, told = d.Feed(s[i])
			what := fmt.Sprintf("%U, byte %d", r, i)
			if i < len(s)-1 {
				expect(t, what, d, told, "", s[:i+1])
			} else {
				expect(t, what, d, told, s, "")
			}
		}
	}
}

// What the last byte of each of these tells, and what is under way behind it.
func TestFeedOfWrongBytes(t *testing.T) {
	for _, x := range []struct{ under, next, told, left string }{
		// A byte that begins no rune.
		{"", "\xC0", "\uFFFD", ""},
		{"", "\xC1", "\uFFFD", ""},
		{"", "\xF5", "\uFFFD", ""},
		{"", "\xF8", "\uFFFD", ""},
		{"", "\xFE", "\uFFFD", ""},
		{"", "\xFF", "\uFFFD", ""},
		// A byte that goes on where none is under way.
		{"", "\x80", "\uFFFD", ""},
		{"", "\x9F", "\uFFFD", ""},
		{"", "\xBF", "\uFFFD", ""},
		// Cut off by a byte below 128.
		{"\xC3", "A", "\uFFFDA", ""},
		{"\xE2", "A", "\uFFFDA", ""},
		{"\xE2\x82", "A", "\uFFFD\uFFFDA", ""},
		{"\xF0", "\x00", "\uFFFD\x00", ""},
		{"\xF0\x9F", "\x7F", "\uFFFD\uFFFD\x7F", ""},
		{"\xF0\x9F\x98", "A", "\uFFFD\uFFFD\uFFFDA", ""},
		// Cut off by a byte that begins another one, which is under way then.
		{"\xC3", "\xC3", "\uFFFD", "\xC3"},
		{"\xC3", "\xF4", "\uFFFD", "\xF4"},
		{"\xE2", "\xE2", "\uFFFD", "\xE2"},
		{"\xE2\x82", "\xC2", "\uFFFD\uFFFD", "\xC2"},
		{"\xF0", "\xF0", "\uFFFD", "\xF0"},
		{"\xF0\x9F", "\xDF", "\uFFFD\uFFFD", "\xDF"},
		{"\xF0\x9F\x98", "\xED", "\uFFFD\uFFFD\uFFFD", "\xED"},
		// Cut off by one that begins none.
		{"\xC3", "\xC0", "\uFFFD\uFFFD", ""},
		{"\xE2\x82", "\xFF", "\uFFFD\uFFFD\uFFFD", ""},
		{"\xF0\x9F\x98", "\xF5", "\uFFFD\uFFFD\uFFFD\uFFFD", ""},
		// At greater length than it needs: the second byte says so, and is wrong by itself.
		{"\xE0", "\x80", "\uFFFD\uFFFD", ""},
		{"\xE0", "\x9F", "\uFFFD\uFFFD", ""},
		{"\xE0", "\xA0", "", "\xE0\xA0"},
		{"\xF0", "\x80", "\uFFFD\uFFFD", ""},
		{"\xF0", "\x8F", "\uFFFD\uFFFD", ""},
		{"\xF0", "\x90", "", "\xF0\x90"},
		// A half of a pair.
		{"\xED", "\x9F", "", "\xED\x9F"},
		{"\xED", "\xA0", "\uFFFD\uFFFD", ""},
		{"\xED", "\xBF", "\uFFFD\uFFFD", ""},
		// Above U+10FFFF.
		{"\xF4", "\x8F", "", "\xF4\x8F"},
		{"\xF4", "\x90", "\uFFFD\uFFFD", ""},
		{"\xF4", "\xBF", "\uFFFD\uFFFD", ""},
	} {
		if !of(x.under).Right() {
			t.Fatalf("%q is under way nowhere", x.under)
		}
		d, told := of(x.under).Feed(x.next[0])
		expect(t, fmt.Sprintf("%q, then %q", x.under, x.next), d, told, x.told, x.left)
	}
}

// U+FFFD that stands in the bytes is told once, as any other rune.
func TestFeedOfTheWrongRuneItself(t *testing.T) {
	d, told := of("\xEF\xBF").Feed(0xBD)
	expect(t, "EF BF BD", d, told, "\uFFFD", "")
	d, told = of("\xEF\xBF").Feed(0xEF)
	expect(t, "EF BF EF", d, told, "\uFFFD\uFFFD", "\xEF")
}

func TestFlush(t *testing.T) {
	for _, x := range []struct{ under, told string }{
		{"", ""},
		{"\xC2", "\uFFFD"},
		{"\xDF", "\uFFFD"},
		{"\xF4", "\uFFFD"},
		{"\xE2\x82", "\uFFFD\uFFFD"},
		{"\xF0\x9F", "\uFFFD\uFFFD"},
		{"\xF0\x9F\x98", "\uFFFD\uFFFD\uFFFD"},
		{"\xF4\x8F\xBF", "\uFFFD\uFFFD\uFFFD"},
	} {
		d, told := of(x.under).Flush()
		expect(t, fmt.Sprintf("flush of %q", x.under), d, told, x.told, "")
		d, told = d.Flush()
		expect(t, fmt.Sprintf("second flush of %q", x.under), d, told, "", "")
	}
}

// Behind a Flush a byte that would have gone on goes on with nothing.
func TestFeedBehindFlush(t *testing.T) {
	d, _ := of("\xF0\x9F\x98").Flush()
	d, told := d.Feed(0x80)
	expect(t, "80", d, told, "\uFFFD", "")
	d, told = d.Feed(0xC3)
	expect(t, "C3", d, told, "", "\xC3")
	d, told = d.Feed(0xA9)
	expect(t, "C3 A9", d, told, "é", "")
}

func TestRight(t *testing.T) {
	for _, s := range []string{
		"", "\xC2", "\xDF", "\xE0", "\xE2", "\xED", "\xEF", "\xF0", "\xF4",
		"\xE0\xA0", "\xE0\xBF", "\xE1\x80", "\xED\x80", "\xED\x9F", "\xEF\xBF", "\xF0\x90", "\xF0\xBF", "\xF1\x80", "\xF4\x8F",
		"\xF0\x90\x80", "\xF0\x9F\x98", "\xF3\xBF\xBF", "\xF4\x8F\xBF",
	} {
		if !of(s).Right() {
			t.Errorf("%q isn't right", s)
		}
	}
}

func TestNotRight(t *testing.T) {
	for _, s := range []string{
		// Whole ones, alone and with others.
		"A", "\x00", "\x7F", "\xC3\xA9", "\xE2\x82\xAC", "AB", "A\xE2", "ABC", "\xC3\xA9A", "\x00\x00\x00",
		// Wrong ones.
		"\x80", "\xBF", "\xC0", "\xC1", "\xF5", "\xFF", "\xC3A", "\xC3\xC3", "\xE2A", "\xE2\x82A", "\xE2\xE2\x82",
		"\xE0\x80", "\xE0\x9F", "\xED\xA0", "\xED\xBF", "\xF0\x8F", "\xF4\x90", "\xF0\x8F\x80", "\xF4\x90\x80", "\xF0\x9F\xFF",
		// What is under way behind a byte that is wrong.
		"\x80\xE2", "\xFF\xE2\x82",
	} {
		if of(s).Right() {
			t.Errorf("%q is right", s)
		}
	}
}

func TestNotRightByNOrByBytesBehind(t *testing.T) {
	for _, d := range []utf.Decoder{
		{N: -1}, {N: 4}, {N: 3 + 256}, {N: math.MinInt}, {N: math.MaxInt},
		{Bytes: [3]byte{0xE2}, N: -1}, {Bytes: [3]byte{0xF0, 0x9F, 0x98}, N: 4}, {Bytes: [3]byte{0xF0, 0x9F, 0x98}, N: math.MaxInt},
		// The first N are a beginning, or none; those behind aren't 0.
		{Bytes: [3]byte{1}}, {Bytes: [3]byte{0, 1}}, {Bytes: [3]byte{0, 0, 1}}, {Bytes: [3]byte{0xE2}}, {Bytes: [3]byte{0xE2, 0x82}},
		{Bytes: [3]byte{0xE2, 0x82}, N: 1}, {Bytes: [3]byte{0xE2, 0, 1}, N: 1}, {Bytes: [3]byte{0xC3, 'A'}, N: 1},
		{Bytes: [3]byte{0xF0, 0x9F, 0x98}, N: 2}, {Bytes: [3]byte{0xF0, 0x9F, 1}, N: 2},
		// 0 bytes among the first N are bytes as others.
		{N: 1}, {N: 2}, {N: 3}, {Bytes: [3]byte{0xE2}, N: 2}, {Bytes: [3]byte{0xF0, 0x9F}, N: 3},
	} {
		if d.Right() {
			t.Errorf("%v is right", d)
		}
	}
}

// Of a Decoder that isn't right nothing is said, but that each call ends and none panics (P0), and that the same one has the same outcome.
func TestCallsOfDecodersThatMayNotBe(t *testing.T) {
	bytes := [][3]byte{{}, {'a', 'b', 'c'}, {0xF0, 0x9F, 0x98}, {0xE2, 0x82, 0xAC}, {0x80, 0xFF, 0xC0}, {0xFF, 0xE2, 0x82}, {0, 0, 1}}
	for _, n := range []int{math.MinInt, -4, -1, 0, 1, 2, 3, 4, 5, 1 << 31, math.MaxInt} {
		for _, b := range bytes {
			d := utf.Decoder{Bytes: b, N: n}
			for c := range 256 {
				one, told := d.Feed(byte(c))
				other, again := d.Feed(byte(c))
				if one != other || !slices.Equal(told, again) {
					t.Fatalf("%v, then %x: %v, %U, and then %v, %U", d, c, one, told, other, again)
				}
				one.Flush()
			}
			d.Flush()
			d.Right()
		}
	}
}

// A Decoder is a value: what is made of it leaves it as it was, and two ways may go on from one.
func TestDecoderIsAValue(t *testing.T) {
	d := of("\xF0\x9F")
	one, told := d.Feed(0x98)
	expect(t, "98", one, told, "", "\xF0\x9F\x98")
	other, told := d.Feed(0x99)
	expect(t, "99", other, told, "", "\xF0\x9F\x99")
	expect(t, "the first one then", one, nil, "", "\xF0\x9F\x98")
	none, told := d.Flush()
	expect(t, "flush", none, told, "\uFFFD\uFFFD", "")
	if d != of("\xF0\x9F") {
		t.Error("it is", d)
	}
	one, told = one.Feed(0x80)
	expect(t, "98 80", one, told, "😀", "")
	other, told = other.Feed(0x80)
	expect(t, "99 80", other, told, "🙀", "")
}

// What is told is new memory: whoever writes to it, or behind it, changes nothing else.
func TestAnswersAreNewMemory(t *testing.T) {
	calls := []func() []rune{
		func() []rune { _, l := of("\xE2\x82").Feed('A'); return l },
		func() []rune { _, l := of("\xE2\x82").Flush(); return l },
		func() []rune { return utf.All("aé\xF0\x9F") },
	}
	for i, call := range calls {
		one, other := call(), call()
		want := slices.Clone(other)
		for j := range one {
			one[j] = 'x'
		}
		_ = append(one, 'y')
		if !slices.Equal(other, want) || !slices.Equal(call(), want) {
			t.Errorf("call %d: %U, then %U; want %U", i, other, call(), want)
		}
	}
}

// texts: ordinary ones, and those of the edges.
func texts() []string {
	l := []string{
		"", "a", "hello, world\n", "é", "中文", "😀", "a\x00b", "aé中😀z", "\u0301e\u200D",
		"é\xF0\x9F", "\xE2A", "\xE2\x82", "\xE2\x82A", "\xE2\x82\xAC", "\xE2\x82\xE2\x82\xAC", "\xF0\x9F\x98\xF0\x9F\x98\x80",
		"\xC0\x80", "\xC1\xBF", "\xE0\x80\x80", "\xE0\x9F\xBF", "\xF0\x80\x80\x80", "\xF0\x8F\xBF\xBF", "\xF8\x88\x80\x80\x80",
		"\xED\xA0\x80", "\xED\xBF\xBF", "\xED\xA0\xBD\xED\xB8\x80", "\xF4\x90\x80\x80", "\xF7\xBF\xBF\xBF",
		"\x80", "\x80\x80\x80\x80", "a\xBFb", "\xFF\xFE", "\xEF\xBF\xBD", "\xEF\xBB\xBFa", "\xC3", "\xC3\xA9\xA9", "\xF0\x9F\x98",
	}
	for _, r := range edges() {
		s := string(r)
		for n := range len(s) + 1 {
			l = append(l, s[:n], s[:n]+"a", s[:n]+"é", s[:n]+"\xFF", s[n:], s[:n]+s)
		}
	}
	return l
}

// ranged: the runes that Go's range tells.
func ranged(s string) []rune {
	var l []rune
	for _, r := range s {
		l = append(l, r)
	}
	return l
}

// fed: a Decoder is fed all bytes of a text; what is told by them.
func fed(d utf.Decoder, s string) (utf.Decoder, []rune) {
	var all []rune
	for i := range len(s) {
		var told []rune
		d, told = d.Feed(s[i])
		all = append(all, told...)
	}
	return d, all
}

func TestAll(t *testing.T) {
	for _, x := range []struct {
		text string
		told []rune
	}{
		{"", nil},
		{"A", []rune{'A'}},
		{"\x00", []rune{0}},
		{"aé中😀", []rune{'a', 0xE9, 0x4E2D, 0x1F600}},
		{"\xE2A", []rune{wrong, 'A'}},
		{"é\xF0\x9F", []rune{0xE9, wrong, wrong}},
		{"\xF0\x9F\x98", []rune{wrong, wrong, wrong}},
		{"\xF0\x9F\x98\x80\x80", []rune{0x1F600, wrong}},
		{"\xC0\x80", []rune{wrong, wrong}},
		{"\xED\xA0\x80", []rune{wrong, wrong, wrong}},
		{"\xF4\x90\x80\x80", []rune{wrong, wrong, wrong, wrong}},
		{"\xEF\xBF\xBD", []rune{wrong}},
	} {
		if l := utf.All(x.text); !slices.Equal(l, x.told) {
			t.Errorf("%q: %U, want %U", x.text, l, x.told)
		}
	}
}

func TestAllIsWhatRangeTells(t *testing.T) {
	for _, s := range texts() {
		if l := utf.All(s); !slices.Equal(l, ranged(s)) {
			t.Errorf("%q: %U, want %U", s, l, ranged(s))
		}
	}
}

// However the bytes are parted: each set of places where one part ends, and each part's bytes fed to the Decoder that the part ahead of it led to, kept by its Bytes and its N alone.
func TestAllOfPartedTexts(t *testing.T) {
	for _, s := range texts() {
		if s == "" {
			continue
		}
		want := utf.All(s)
		for cuts := range 1 << min(len(s)-1, 12) {
			var all []rune
			d, from := utf.Decoder{}, 0
			for i := 1; i <= len(s); i++ {
				if i < len(s) && cuts&(1<<(i-1)) == 0 {
					continue
				}
				kept, told := fed(d, s[from:i])
				all = append(all, told...)
				d, from = utf.Decoder{Bytes: kept.Bytes, N: kept.N}, i
			}
			_, told := d.Flush()
			if all = append(all, told...); !slices.Equal(all, want) {
				t.Fatalf("%q, cut at %b: %U, want %U", s, cuts, all, want)
			}
		}
	}
}

// Where nothing is under way a text may be told in two: All of both parts.
func TestAllOfTwoParts(t *testing.T) {
	for _, s := range texts() {
		for i := range len(s) + 1 {
			d, _ := fed(utf.Decoder{}, s[:i])
			both := append(utf.All(s[:i]), utf.All(s[i:])...)
			if d.N == 0 && !slices.Equal(both, utf.All(s)) {
				t.Errorf("%q at %d: %U, want %U", s, i, both, utf.All(s))
			}
		}
	}
}
