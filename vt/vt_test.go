package vt_test

import (
	"slices"
	"strings"
	"testing"

	"flipbook/api"
	"flipbook/utf"
	"flipbook/vt"
)

// The acts, as short as may be.
func runes(s string) (l []api.Act) {
	for _, r := range s {
		l = append(l, api.Act{Kind: api.Print, Rune: r})
	}
	return l
}
func exec(c byte) api.Act                { return api.Act{Kind: api.Exec, Last: c} }
func esc(marks string, c byte) api.Act   { return api.Act{Kind: api.Esc, Last: c, Marks: marks} }
func osc(text string) api.Act            { return api.Act{Kind: api.Osc, Text: text} }
func dcs(text string) api.Act            { return api.Act{Kind: api.Dcs, Text: text} }
func acts(l ...api.Act) []api.Act        { return l }
func under(n int, b ...byte) vt.Parser   { return vt.Parser{Utf: utf.Decoder{Bytes: [3]byte(b), N: n}} }
func entry(m string, l ...int) vt.Parser { return vt.Parser{State: vt.Entry, Marks: m, Params: l} }
func strange(m string, l ...int) vt.Parser {
	return vt.Parser{State: vt.Strange, Marks: m, Params: l}
}
func csi(marks string, c byte, params ...int) api.Act {
	return api.Act{Kind: api.Csi, Last: c, Marks: marks, Params: params}
}

var (
	ground = vt.Parser{}
	escape = vt.Parser{State: vt.Escape}
	str    = vt.Parser{State: vt.String}
	device = vt.Parser{State: vt.Device}
)

func marks(m string) vt.Parser { return vt.Parser{State: vt.Marks, Marks: m} }

func with(p vt.Parser, text string) vt.Parser {
	p.Text = text
	return p
}

func closing(within int, text string) vt.Parser {
	return vt.Parser{State: vt.Closing, Within: within, Text: text}
}

// sameActs: are they alike in all fields, those without a meaning too? An empty list may be nil or not.
func sameActs(a, b []api.Act) bool {
	return slices.EqualFunc(a, b, func(x, y api.Act) bool {
		return x.Kind == y.Kind && x.Rune == y.Rune && x.Last == y.Last && x.Marks == y.Marks && x.Text == y.Text && slices.Equal(x.Params, y.Params)
	})
}

func same(a, b vt.Parser) bool {
	return a.State == b.State && a.Utf == b.Utf && a.Marks == b.Marks && a.Text == b.Text && a.Within == b.Within && slices.Equal(a.Params, b.Params)
}

// A row: from a parser on, bytes tell acts and lead to another parser.
type row struct {
	from  vt.Parser
	bytes string
	told  []api.Act
	to    vt.Parser
}

func check(t *testing.T, rows []row) {
	t.Helper()
	for _, x := range rows {
		if !x.from.Right() || !x.to.Right() {
			t.Fatalf("%+v, or %+v, isn't right", x.from, x.to)
		}
		if p, told := x.from.All(x.bytes); !sameActs(told, x.told) || !same(p, x.to) {
			t.Errorf("%+v, %q: %+v, %+v; want %+v, %+v", x.from, x.bytes, told, p, x.told, x.to)
		}
	}
}

func TestStatesHaveTheirNumbers(t *testing.T) {
	for i, s := range []int{vt.Ground, vt.Escape, vt.Marks, vt.Entry, vt.Strange, vt.String, vt.Device, vt.Closing} {
		if s != i {
			t.Errorf("state %d has the number %d", i, s)
		}
	}
}

func TestExamples(t *testing.T) {
	check(t, []row{
		{ground, "\x1b[1;2H", acts(csi("", 'H', 1, 2)), ground},
		{ground, "\x1b[?25l", acts(csi("?", 'l', 25)), ground},
		{ground, "\x1b]0;t\x07", acts(osc("0;t")), ground},
	})
}

func TestNoBytesTellNothing(t *testing.T) {
	for _, p := range ofEachState() {
		if q, told := p.All(""); len(told) != 0 || !same(p, q) {
			t.Errorf("%+v: %+v, %+v", p, told, q)
		}
	}
}

func TestGround(t *testing.T) {
	check(t, []row{
		{ground, "a ~", runes("a ~"), ground},
		{ground, "aé中😀", runes("aé中😀"), ground},
		{ground, "\x1b", nil, escape},
		{ground, "\x00\x07\x18\x1a\x1f\x7f", acts(exec(0), exec(7), exec(24), exec(26), exec(31), exec(127)), ground},
		{ground, "a\nb", acts(runes("a")[0], exec('\n'), runes("b")[0]), ground},
		// Bytes that are none of a rune, the steering ones from 128 on among them.
		{ground, "\x80\x9b\xff", runes("\uFFFD\uFFFD\uFFFD"), ground},
		{ground, "\xe2", nil, under(1, 0xE2, 0, 0)},
		{ground, "\xe2\x82", nil, under(2, 0xE2, 0x82, 0)},
		{ground, "\xf0\x9f\x98", nil, under(3, 0xF0, 0x9F, 0x98)},
		{under(2, 0xE2, 0x82, 0), "\xac", runes("€"), ground},
	})
}

// A rune under way is cut off by each byte below 128, and that byte does what it does anyhow; one from 128 on that doesn't go on with it may begin another one.
func TestGroundOfARuneCutOff(t *testing.T) {
	cut := slices.Clip(runes("\uFFFD\uFFFD"))
	check(t, []row{
		{under(2, 0xE2, 0x82, 0), "A", runes("\uFFFD\uFFFDA"), ground},
		{under(2, 0xE2, 0x82, 0), " ", runes("\uFFFD\uFFFD "), ground},
		{under(2, 0xE2, 0x82, 0), "\x00", append(cut, exec(0)), ground},
		{under(2, 0xE2, 0x82, 0), "\x18", append(cut, exec(24)), ground},
		{under(2, 0xE2, 0x82, 0), "\x1a", append(cut, exec(26)), ground},
		{under(2, 0xE2, 0x82, 0), "\x7f", append(cut, exec(127)), ground},
		{under(2, 0xE2, 0x82, 0), "\x1b", cut, escape},
		{under(3, 0xF0, 0x9F, 0x98), "\x1b[m", append(runes("\uFFFD\uFFFD\uFFFD"), csi("", 'm')), ground},
		{under(1, 0xC3, 0, 0), "\x1b]\xa9\x07", append(runes("\uFFFD"), osc("\xa9")), ground},
		{under(1, 0xC3, 0, 0), "\xc3", runes("\uFFFD"), under(1, 0xC3, 0, 0)},
		{under(1, 0xC3, 0, 0), "\xff", runes("\uFFFD\uFFFD"), ground},
	})
}

func TestEscape(t *testing.T) {
	check(t, []row{
		{escape, "[", nil, entry("")},
		{escape, "]", nil, str},
		{escape, "P", nil, device},
		{escape, "0", acts(esc("", '0')), ground},
		{escape, "7", acts(esc("", '7')), ground},
		{escape, "\\", acts(esc("", '\\')), ground},
		{escape, "~", acts(esc("", '~')), ground},
		{escape, "O", acts(esc("", 'O')), ground},
		{escape, "Q", acts(esc("", 'Q')), ground},
		{escape, " ", nil, marks(" ")},
		{escape, "/", nil, marks("/")},
		{escape, "\x1b", nil, escape},
		{escape, "\x18", nil, ground},
		{escape, "\x1a", nil, ground},
		{escape, "\x00\x07\x19\x1c\x1f", acts(exec(0), exec(7), exec(25), exec(28), exec(31)), escape},
		{escape, "\x7f\x80\x9b\xc3\xa9\xff", nil, escape},
	})
}

func TestMarks(t *testing.T) {
	check(t, []row{
		{escape, "(0", acts(esc("(", '0')), ground},
		{escape, " /~", acts(esc(" /", '~')), ground},
		{marks("("), "(", nil, marks("((")},
		// A third one is lost, and the sequence tells all the same.
		{marks("#$"), "%", nil, marks("#$")},
		{marks("#$"), "%&'8", acts(esc("#$", '8')), ground},
		{marks("("), "[", acts(esc("(", '[')), ground},
		{marks("("), "]", acts(esc("(", ']')), ground},
		{marks("("), "P", acts(esc("(", 'P')), ground},
		{marks("("), "\\", acts(esc("(", '\\')), ground},
		{marks("("), "\x1b", nil, escape},
		{marks("("), "\x1b0", acts(esc("", '0')), ground},
		{marks("("), "\x18", nil, ground},
		{marks("("), "\x1a", nil, ground},
		{marks("(("), "\x00\x07\x1f", acts(exec(0), exec(7), exec(31)), marks("((")},
		{marks("(("), "\x7f\x80\x9b\xff", nil, marks("((")},
		{marks("("), "\nB", acts(exec('\n'), esc("(", 'B')), ground},
	})
}

func TestParameters(t *testing.T) {
	full := []int{1, 2, 3, 4, 5, 6, 7, 8}
	check(t, []row{
		{entry(""), "m", acts(csi("", 'm')), ground},
		{entry(""), "0", nil, entry("", 0)},
		{entry(""), "9", nil, entry("", 9)},
		{entry("", 0), "7", nil, entry("", 7)},
		{entry("", 12), "0", nil, entry("", 120)},
		{entry(""), "007m", acts(csi("", 'm', 7)), ground},
		// Empty ones are 0.
		{entry(""), ";", nil, entry("", 0, 0)},
		{entry(""), ";;m", acts(csi("", 'm', 0, 0, 0)), ground},
		{entry(""), ";5;H", acts(csi("", 'H', 0, 5, 0)), ground},
		{entry(""), "5;m", acts(csi("", 'm', 5, 0)), ground},
		// MaxParams of them, and one more: its digits stand behind the last one's.
		{entry(""), "1;2;3;4;5;6;7;8m", acts(csi("", 'm', full...)), ground},
		{entry("", full...), ";", nil, entry("", full...)},
		{entry("", full...), ";9m", acts(csi("", 'm', 1, 2, 3, 4, 5, 6, 7, 89)), ground},
		{entry(""), ";;;;;;;", nil, entry("", 0, 0, 0, 0, 0, 0, 0, 0)},
		{entry(""), ";;;;;;;;;;", nil, entry("", 0, 0, 0, 0, 0, 0, 0, 0)},
		{entry("", 1, 2, 3, 4, 5, 6, 7), ";", nil, entry("", 1, 2, 3, 4, 5, 6, 7, 0)},
		// At most MaxParam.
		{entry(""), "9998m", acts(csi("", 'm', 9998)), ground},
		{entry(""), "9999m", acts(csi("", 'm', 9999)), ground},
		{entry(""), "10000m", acts(csi("", 'm', 9999)), ground},
		{entry("", 1000), "0", nil, entry("", 9999)},
		{entry("", 9999), "0", nil, entry("", 9999)},
		{entry(""), strings.Repeat("1234567890", 30) + ";1m", acts(csi("", 'm', 9999, 1)), ground},
	})
}

func TestEntry(t *testing.T) {
	check(t, []row{
		{entry(""), "@", acts(csi("", '@')), ground},
		{entry(""), "~", acts(csi("", '~')), ground},
		{entry("", 1), "[", acts(csi("", '[', 1)), ground},
		{entry("", 1), "]", acts(csi("", ']', 1)), ground},
		{entry("", 1), "P", acts(csi("", 'P', 1)), ground},
		{entry("", 1), "\\", acts(csi("", '\\', 1)), ground},
		// Marks ahead of parameters, between them, behind them, and with none.
		{entry(""), "?1h", acts(csi("?", 'h', 1)), ground},
		{entry(""), "1 q", acts(csi(" ", 'q', 1)), ground},
		{entry(""), "1;$2r", acts(csi("$", 'r', 1, 2)), ground},
		{entry(""), "1?2h", acts(csi("?", 'h', 12)), ground},
		{entry(""), "!p", acts(csi("!", 'p')), ground},
		{entry(""), "?1$p", acts(csi("?$", 'p', 1)), ground},
		{entry(""), "<=m", acts(csi("<=", 'm')), ground},
		{entry(""), ">/c", acts(csi(">/", 'c')), ground},
		// A third one, a colon: the sequence tells nothing then.
		{entry("?$", 1), " ", nil, strange("?$", 1)},
		{entry("?$", 1), "?", nil, strange("?$", 1)},
		{entry("?$", 1), ":", nil, strange("?$", 1)},
		{entry("", 1), ":", nil, strange("", 1)},
		{entry(""), ":", nil, strange("")},
		{entry(""), "???m", nil, ground},
		{entry(""), "38:5:1m", nil, ground},
		{entry("?", 1), "\x1b", nil, escape},
		{entry("?", 1), "\x1b[2m", acts(csi("", 'm', 2)), ground},
		{entry("?", 1), "\x18", nil, ground},
		{entry("?", 1), "\x1a", nil, ground},
		{entry("?", 1), "\x00\x07\x1f", acts(exec(0), exec(7), exec(31)), entry("?", 1)},
		{entry("?", 1), "\x7f\x80\x9b\xff", nil, entry("?", 1)},
		{entry("", 1), "\r2;\n3H", acts(exec('\r'), exec('\n'), csi("", 'H', 12, 3)), ground},
	})
}

func TestStrange(t *testing.T) {
	check(t, []row{
		{strange("?", 1), "@", nil, ground},
		{strange("?", 1), "m", nil, ground},
		{strange("?", 1), "~", nil, ground},
		{strange("?", 1), "[", nil, ground},
		{strange("?", 1), "]", nil, ground},
		// All else goes on as in Entry.
		{strange(""), "5", nil, strange("", 5)},
		{strange("?", 1), "2", nil, strange("?", 12)},
		{strange("?", 9999), "2", nil, strange("?", 9999)},
		{strange(""), ";", nil, strange("", 0, 0)},
		{strange("", 1), ";", nil, strange("", 1, 0)},
		{strange("", 1, 2, 3, 4, 5, 6, 7, 8), ";9", nil, strange("", 1, 2, 3, 4, 5, 6, 7, 89)},
		{strange("", 1), "$", nil, strange("$", 1)},
		{strange("$", 1), ">", nil, strange("$>", 1)},
		{strange("$>", 1), ">", nil, strange("$>", 1)},
		{strange("$", 1), ":", nil, strange("$", 1)},
		{strange("$>", 1), ":", nil, strange("$>", 1)},
		{strange("$", 1), "\x1b", nil, escape},
		{strange("$", 1), "\x18", nil, ground},
		{strange("$", 1), "\x1a", nil, ground},
		{strange("$", 1), "\x00\x07\x1f", acts(exec(0), exec(7), exec(31)), strange("$", 1)},
		{strange("$", 1), "\x7f\x80\x9b\xff", nil, strange("$", 1)},
		// The next sequence is none.
		{strange("$", 1), "m\x1b[1m", acts(csi("", 'm', 1)), ground},
	})
}

func TestTexts(t *testing.T) {
	long := strings.Repeat("0123456789", 4)
	for _, x := range []struct {
		from  vt.Parser
		kind  func(string) api.Act
		state int
	}{{str, osc, vt.String}, {device, dcs, vt.Device}} {
		check(t, []row{
			{x.from, "a", nil, with(x.from, "a")},
			{x.from, "\x1b\\", acts(x.kind("")), ground},
			{x.from, "ab c~\x1b\\", acts(x.kind("ab c~")), ground},
			{x.from, "[]P\\;:\x1b\\", acts(x.kind("[]P\\;:")), ground},
			{x.from, "a\x7f\x80\x9c\xff\x1b\\", acts(x.kind("a\x7f\x80\x9c\xff")), ground},
			{x.from, "é中\x1b\\", acts(x.kind("é中")), ground},
			{with(x.from, "a"), "\x1b", nil, closing(x.state, "a")},
			{with(x.from, "a"), "\x18", nil, ground},
			{with(x.from, "a"), "\x1a", nil, ground},
			{with(x.from, "a"), "\x00\x06\x08\n\x17\x19\x1c\x1f", nil, with(x.from, "a")},
			{x.from, "a\nb\x1b\\", acts(x.kind("ab")), ground},
			// MaxText bytes, and one more.
			{x.from, long[1:], nil, with(x.from, long[1:])},
			{with(x.from, long[1:]), "x", nil, with(x.from, long[1:]+"x")},
			{with(x.from, long), "x", nil, with(x.from, long)},
			{with(x.from, long), "\xff", nil, with(x.from, long)},
			{x.from, long + "\x1b\\", acts(x.kind(long)), ground},
			{x.from, long + "x\x1b\\", acts(x.kind(long)), ground},
			{x.from, strings.Repeat(long, 5) + "\x1b\\", acts(x.kind(long)), ground},
			{with(x.from, long), "\x1b", nil, closing(x.state, long)},
		})
	}
}

// A byte 7 finishes a text of String; in Device it is one of those that tell nothing.
func TestTextsAndTheBell(t *testing.T) {
	long := strings.Repeat("x", api.MaxText)
	check(t, []row{
		{str, "\x07", acts(osc("")), ground},
		{with(str, "a"), "\x07", acts(osc("a")), ground},
		{str, long + "\x07", acts(osc(long)), ground},
		{str, long + "y\x07", acts(osc(long)), ground},
		{device, "\x07", nil, device},
		{with(device, "a"), "\x07", nil, with(device, "a")},
		{device, "a\x07b\x1b\\", acts(dcs("ab")), ground},
	})
}

// A text is given up by each kind of byte behind ESC, and that byte is as it is in Escape.
func TestTextsGivenUp(t *testing.T) {
	for _, state := range []int{vt.String, vt.Device} {
		p := closing(state, "text")
		check(t, []row{
			{p, "[", nil, entry("")},
			{p, "]", nil, str},
			{p, "P", nil, device},
			{p, "[7m", acts(csi("", 'm', 7)), ground},
			{p, "]a\x07", acts(osc("a")), ground},
			{p, "Pa\x1b\\", acts(dcs("a")), ground},
			{p, "(", nil, marks("(")},
			{p, "7", acts(esc("", '7')), ground},
			{p, "~", acts(esc("", '~')), ground},
			{p, "\x1b", nil, escape},
			{p, "\x1b\\", acts(esc("", '\\')), ground},
			{p, "\x18", nil, ground},
			{p, "\x1a", nil, ground},
			{p, "\x07", acts(exec(7)), escape},
			{p, "\n", acts(exec('\n')), escape},
			{p, "\n\\", acts(exec('\n'), esc("", '\\')), ground},
			{p, "\x7f", nil, escape},
			{p, "\x9c", nil, escape},
			{p, "\xff\\", acts(esc("", '\\')), ground},
		})
	}
	check(t, []row{
		{closing(vt.String, "text"), "\\", acts(osc("text")), ground},
		{closing(vt.Device, "text"), "\\", acts(dcs("text")), ground},
		{closing(vt.String, ""), "\\", acts(osc("")), ground},
		{closing(vt.Device, ""), "\\", acts(dcs("")), ground},
	})
}

// Sequences one behind the other have nothing of each other.
func TestSequencesInARow(t *testing.T) {
	check(t, []row{
		{ground, "\x1b[?1;2h\x1b[m\x1b(B\x1b7\x1b]a\x07\x1b]\x07", acts(csi("?", 'h', 1, 2), csi("", 'm'), esc("(", 'B'), esc("", '7'), osc("a"), osc("")), ground},
		{ground, "\x1b]a\x18\x1bPb\x1b\\", acts(dcs("b")), ground},
		{ground, "\x1b[1\x18" + "2m", runes("2m"), ground},
		{ground, "\x1b[1\x1a" + "2m", runes("2m"), ground},
		{ground, "\x1b]text\x18\x07", acts(exec(7)), ground},
		{ground, "\x1b[9\x1b(\x1b[m", acts(csi("", 'm')), ground},
	})
}

// ofEachState: parsers of each state, with little and with as much as may be.
func ofEachState() []vt.Parser {
	long := strings.Repeat("x", api.MaxText)
	l := []vt.Parser{ground, under(1, 0xC3, 0, 0), under(2, 0xE2, 0x82, 0), under(3, 0xF0, 0x9F, 0x98), escape, marks("("), marks("#/")}
	for _, state := range []int{vt.Entry, vt.Strange} {
		for _, m := range []string{"", "?", "<$"} {
			for _, params := range [][]int{nil, {0}, {7}, {9999}, {1, 2, 3, 4, 5, 6, 7}, {1, 2, 3, 4, 5, 6, 7, 8}} {
				l = append(l, vt.Parser{State: state, Marks: m, Params: params})
			}
		}
	}
	for _, text := range []string{"", "a", "\x7f\x80\xff", long[1:], long} {
		l = append(l, with(str, text), with(device, text), closing(vt.String, text), closing(vt.Device, text))
	}
	return l
}
