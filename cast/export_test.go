package cast_test

import (
	"fmt"
	"math"
	"slices"
	"strings"
	"testing"

	"flipbook/api"
	"flipbook/cast"
)

func TestTheExample(t *testing.T) {
	expectBoth(t, 80, 24, []api.Event{{Time: 1, Kind: api.Size, W: 80, H: 24}}, head+"[0.000001, \"r\", \"80x24\"]\n")
}

func TestNoEvent(t *testing.T) {
	for _, c := range []struct {
		w, h int
		s    string
	}{
		{0, 0, "{\"version\": 2, \"width\": 0, \"height\": 0}\n"},
		{1, 0, "{\"version\": 2, \"width\": 1, \"height\": 0}\n"},
		{0, 1, "{\"version\": 2, \"width\": 0, \"height\": 1}\n"},
		{80, 24, "{\"version\": 2, \"width\": 80, \"height\": 24}\n"},
		{10, 1001, "{\"version\": 2, \"width\": 10, \"height\": 1001}\n"},
		{math.MaxInt, 0, "{\"version\": 2, \"width\": 9223372036854775807, \"height\": 0}\n"},
		{0, math.MaxInt, "{\"version\": 2, \"width\": 0, \"height\": 9223372036854775807}\n"},
		{math.MaxInt, math.MaxInt - 1, "{\"version\": 2, \"width\": 9223372036854775807, \"height\": 9223372036854775806}\n"},
	} {
		expectBoth(t, c.w, c.h, nil, c.s)
	}
}

func TestOneEvent(t *testing.T) {
	for _, c := range []struct {
		e    api.Event
		line string
	}{
		{api.Event{Kind: 0, Data: "x"}, `[0.000000, "o", "x"]`},
		{api.Event{Kind: 1, Data: "x"}, `[0.000000, "i", "x"]`},
		{api.Event{Kind: 2, W: 7, H: 9}, `[0.000000, "r", "7x9"]`},
		{api.Event{Kind: 3, Data: "x"}, `[0.000000, "m", "x"]`},
		{api.Event{Kind: 0}, `[0.000000, "o", ""]`},
		{api.Event{Kind: 1}, `[0.000000, "i", ""]`},
		{api.Event{Kind: 3}, `[0.000000, "m", ""]`},
		{api.Event{Time: 1}, `[0.000001, "o", ""]`},
		{api.Event{Time: 10}, `[0.000010, "o", ""]`},
		{api.Event{Time: 123456}, `[0.123456, "o", ""]`},
		{api.Event{Time: 999999}, `[0.999999, "o", ""]`},
		{api.Event{Time: 1000000}, `[1.000000, "o", ""]`},
		{api.Event{Time: 1000001}, `[1.000001, "o", ""]`},
		{api.Event{Time: 61000100}, `[61.000100, "o", ""]`},
		{api.Event{Time: 1<<62 - 1}, `[4611686018427.387903, "o", ""]`},
		{api.Event{Time: 1<<62 - 1, Kind: 2, W: 1, H: 1}, `[4611686018427.387903, "r", "1x1"]`},
		{api.Event{Kind: 2, W: 1, H: 1}, `[0.000000, "r", "1x1"]`},
		{api.Event{Kind: 2, W: 1, H: 1000}, `[0.000000, "r", "1x1000"]`},
		{api.Event{Kind: 2, W: 1000, H: 1}, `[0.000000, "r", "1000x1"]`},
		{api.Event{Kind: 2, W: 1000, H: 1000}, `[0.000000, "r", "1000x1000"]`},
		{api.Event{Kind: 2, W: 10, H: 999}, `[0.000000, "r", "10x999"]`},
		{api.Event{Kind: 0, Data: "80x24"}, `[0.000000, "o", "80x24"]`},
		{api.Event{Kind: 1, Data: "80x24"}, `[0.000000, "i", "80x24"]`},
		{api.Event{Kind: 3, Data: "80x24"}, `[0.000000, "m", "80x24"]`},
		{api.Event{Kind: 3, Data: "0x1001"}, `[0.000000, "m", "0x1001"]`},
		{api.Event{Data: `"`}, `[0.000000, "o", "\""]`},
		{api.Event{Data: `\`}, `[0.000000, "o", "\\"]`},
		{api.Event{Data: `\n`}, `[0.000000, "o", "\\n"]`},
		{api.Event{Data: `\u0009`}, `[0.000000, "o", "\\u0009"]`},
		{api.Event{Data: `"]`}, `[0.000000, "o", "\"]"]`},
		{api.Event{Data: `, "o", "`}, `[0.000000, "o", ", \"o\", \""]`},
		{api.Event{Data: "]\n[0.000000"}, `[0.000000, "o", "]\n[0.000000"]`},
		{api.Event{Data: "\n"}, `[0.000000, "o", "\n"]`},
		{api.Event{Data: "\r"}, `[0.000000, "o", "\r"]`},
		{api.Event{Data: "a\r\nb\n\n"}, `[0.000000, "o", "a\r\nb\n\n"]`},
		{api.Event{Data: "\x00\x01\t\x1b[m\x1f \x7f"}, `[0.000000, "o", "\u0000\u0001\u0009\u001b[m\u001f \u007f"]`},
		{api.Event{Data: "/<&>'`"}, "[0.000000, \"o\", \"/<&>'`\"]"},
		{api.Event{Data: "\u0080é\u07ff"}, "[0.000000, \"o\", \"\u0080é\u07ff\"]"},
		{api.Event{Data: "\u0800中\u2028\ud7ff\ue000\uffff"}, "[0.000000, \"o\", \"\u0800中\u2028\ud7ff\ue000\uffff\"]"},
		{api.Event{Data: "\U00010000😀\U0010ffff"}, "[0.000000, \"o\", \"\U00010000😀\U0010ffff\"]"},
		{api.Event{Data: "\ufffd"}, "[0.000000, \"o\", \"\xef\xbf\xbd\"]"},
		{api.Event{Kind: 3, Data: strings.Repeat("d", 400)}, `[0.000000, "m", "` + strings.Repeat("d", 400) + `"]`},
		{api.Event{Kind: 1, Data: strings.Repeat("\x00", 400)}, `[0.000000, "i", "` + strings.Repeat(`\u0000`, 400) + `"]`},
		{api.Event{Data: strings.Repeat("😀", 100)}, `[0.000000, "o", "` + strings.Repeat("😀", 100) + `"]`},
		{api.Event{Data: strings.Repeat("\ufffd", 133)}, `[0.000000, "o", "` + strings.Repeat("\ufffd", 133) + `"]`},
	} {
		expectBoth(t, 80, 24, []api.Event{c.e}, head+c.line+"\n")
		expectBoth(t, 0, math.MaxInt, []api.Event{c.e, c.e, c.e}, "{\"version\": 2, \"width\": 0, \"height\": 9223372036854775807}\n"+strings.Repeat(c.line+"\n", 3))
	}
}

func TestEachByteOfData(t *testing.T) {
	for i := range 128 {
		want := string(rune(i))
		switch {
		case i == '\n':
			want = `\n`
		case i == '\r':
			want = `\r`
		case i == '"' || i == '\\':
			want = `\` + want
		case i < 32 || i == 127:
			want = fmt.Sprintf(`\u00%02x`, i)
		}
		for _, k := range []struct {
			kind int
			sign string
		}{{0, "o"}, {1, "i"}, {3, "m"}} {
			expectBoth(t, 1, 1, []api.Event{{Time: 7, Kind: k.kind, Data: "é" + string(rune(i)) + "0"}},
				"{\"version\": 2, \"width\": 1, \"height\": 1}\n[0.000007, \""+k.sign+"\", \"é"+want+"0\"]\n")
		}
	}
}

func TestEachSize(t *testing.T) {
	for n := range 1000 {
		for _, m := range []int{1, 9, 10, 99, 100, 999, 1000} {
			expectBoth(t, 80, 24, []api.Event{{Kind: 2, W: n + 1, H: m}}, head+fmt.Sprintf("[0.000000, \"r\", \"%dx%d\"]\n", n+1, m))
			expectBoth(t, 80, 24, []api.Event{{Kind: 2, W: m, H: n + 1}}, head+fmt.Sprintf("[0.000000, \"r\", \"%dx%d\"]\n", m, n+1))
		}
	}
}

func TestMoreEvents(t *testing.T) {
	expectBoth(t, 80, 24, []api.Event{
		{Time: 0, Data: "a"}, {Time: 0, Kind: 1, Data: "b"}, {Time: 0, Kind: 2, W: 3, H: 4}, {Time: 0, Kind: 3, Data: "c"},
		{Time: 5, Kind: 3, Data: "80x24"}, {Time: 5, Kind: 2, W: 80, H: 24}, {Time: 1000000, Kind: 1, Data: "\r\n"}, {Time: 1<<62 - 1}, {Time: 1<<62 - 1, Data: "é"},
	}, head+`[0.000000, "o", "a"]
[0.000000, "i", "b"]
[0.000000, "r", "3x4"]
[0.000000, "m", "c"]
[0.000005, "m", "80x24"]
[0.000005, "r", "80x24"]
[1.000000, "i", "\r\n"]
[4611686018427.387903, "o", ""]
[4611686018427.387903, "o", "é"]
`)
}

func TestManyEvents(t *testing.T) {
	var l []api.Event
	for i := range 20000 {
		l = append(l, api.Event{Time: i / 3, Data: fmt.Sprint(i)})
	}
	var want strings.Builder
	want.WriteString(head)
	for i := range 20000 {
		fmt.Fprintf(&want, "[0.%06d, \"o\", \"%d\"]\n", i/3, i)
	}
	expectBoth(t, 80, 24, l, want.String())
}

// Each byte that is no UTF-8 is U+FFFD, which is what comes back of it.
func TestDataThatIsNoUTF8(t *testing.T) {
	for data, want := range map[string]string{
		"\xff":                 "\ufffd",
		"\x80":                 "\ufffd",
		"a\xffb":               "a\ufffdb",
		"\xff\xfe":             "\ufffd\ufffd",
		"\xc3":                 "\ufffd",
		"\xc3a":                "\ufffda",
		"\xe4\xb8":             "\ufffd\ufffd",
		"\xed\xa0\x80":         "\ufffd\ufffd\ufffd",
		"\xc0\x80":             "\ufffd\ufffd",
		"\xf4\x90\x80\x80":     "\ufffd\ufffd\ufffd\ufffd",
		"\xf0\x9f\x98":         "\ufffd\ufffd\ufffd",
		"\ufffd\xff\ufffd":     "\ufffd\ufffd\ufffd",
		"\x1b[\x9b":            "\x1b[\ufffd",
		pad("\xff", 133):       pad("\ufffd", 133),
		pad("\xff", 133) + "a": pad("\ufffd", 133) + "a",
	} {
		for _, kind := range []int{0, 1, 3} {
			s := written(80, 24, []api.Event{{Time: 3, Kind: kind, Data: want}})
			expectExport(t, 80, 24, []api.Event{{Time: 3, Kind: kind, Data: data}}, s)
			expectImport(t, s, 80, 24, []api.Event{{Time: 3, Kind: kind, Data: want}})
		}
	}
}

func pad(s string, n int) string { return strings.Repeat(s, n) }

// More than 400 bytes come of these, so what is written is no right list's.
func TestWhatComesBackOfDataThatIsNoUTF8MayBeTooLong(t *testing.T) {
	for _, n := range []int{134, 135, 200, 399, 400} {
		s := cast.Export(80, 24, api.Event{Data: pad("\xff", n)})
		if s != head+"[0.000000, \"o\", \""+pad("\ufffd", n)+"\"]\n" {
			t.Fatal(s)
		}
		expectNone(t, s)
	}
}

func TestListsThatLookLikeChanceComeBack(t *testing.T) {
	d := dice(17)
	for range 4000 {
		w, h, l := chanceSide(&d), chanceSide(&d), chance(&d, pick(&d, 0, 1, 3, 12))
		expectBoth(t, w, h, l, written(w, h, l))
	}
}

func TestBytesThatLookLikeChanceAreWritten(t *testing.T) {
	d := dice(18)
	for range 4000 {
		b := make([]byte, d.upTo(30))
		for i := range b {
			b[i] = byte(pick(&d, d.upTo(256), 'a', '"', 0xC3, 0xA9, 0xE4, 0xF0, 0x9F))
		}
		l := []api.Event{{Kind: pick(&d, 0, 1, 3), Data: string(b)}}
		expectExport(t, 80, 24, l, written(80, 24, l))
		expectRead(t, written(80, 24, l))
	}
}

// Of such lists and numbers nothing is said; the calls end all the same, and as they did before (P0).
func TestWhatMayNotBeEnds(t *testing.T) {
	far := []int{math.MinInt, math.MinInt + 1, -1000001, -1000000, -1, 0, 1, 4, 5, 255, 1 << 62, math.MaxInt}
	for _, n := range far {
		for _, m := range far {
			e := api.Event{Time: n, Kind: m, Data: "\xff", W: n, H: m}
			s := cast.Export(n, m, e, api.Event{Kind: 2, W: m, H: n}, e)
			if s != cast.Export(n, m, e, api.Event{Kind: 2, W: m, H: n}, e) {
				t.Fatal(s)
			}
			expectRead(t, s)
		}
	}
}

func TestExportKeepsItsList(t *testing.T) {
	d := dice(19)
	l := chance(&d, 12)
	was := slices.Clone(l)
	s := cast.Export(80, 24, l...)
	if !slices.Equal(l, was) {
		t.Error("the list is another one")
	}
	clear(l)
	expectImport(t, s, 80, 24, was)
}

func TestEachAnswerIsItsOwn(t *testing.T) {
	l := []api.Event{{Time: 1, Data: "a"}, {Time: 2, Kind: 2, W: 1, H: 1}}
	s := cast.Export(1, 1, l...)
	_, _, first, _ := cast.Import(s)
	clear(first)
	expectImport(t, s, 1, 1, l)
}
