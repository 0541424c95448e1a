package cast_test

import (
	"strings"
	"testing"

	"flipbook/api"
)

// example: a cast with one event of each kind, and with each kind of sign in its texts.
const example = head + `[0.000001, "r", "80x24"]
[1.500000, "o", "a\u001b[m\"\\\r\n é"]
[1.500000, "i", "80x24"]
[4611686018427.387903, "m", ""]
`

func TestExampleComesBack(t *testing.T) {
	expectBoth(t, 80, 24, []api.Event{
		{Time: 1, Kind: 2, W: 80, H: 24}, {Time: 1500000, Data: "a\x1b[m\"\\\r\n é"}, {Time: 1500000, Kind: 1, Data: "80x24"}, {Time: 1<<62 - 1, Kind: 3},
	}, example)
}

func TestLinesThatAreOtherwise(t *testing.T) {
	lines := strings.SplitAfter(example, "\n")
	lines = lines[:len(lines)-1]
	for i, line := range lines {
		bare := line[:len(line)-1]
		for _, other := range []string{
			"", bare, bare + " \n", bare + "\r\n", bare + "\n\n", " " + line, "\n" + line, "\r" + line, "\t" + line, "\ufeff" + line, bare + "x\n", bare + ",\n", bare + "\x00\n", line + "]\n", line + " ",
			bare[:len(bare)-1] + "\n", bare[1:] + "\n", "[" + bare + "]\n", bare + bare + "\n", line + "x", line + "# a remark\n", line + head, line + "{}\n", line + "[]\n",
		} {
			s := strings.Join(lines[:i], "") + other + strings.Join(lines[i+1:], "")
			if other == "" && i > 0 {
				expectRead(t, s)
				continue
			}
			expectNone(t, s)
		}
	}
	for _, s := range []string{"", "\n", " ", "{}\n", "[]\n", "{", "[", "x", "\x00", "null\n", "2\n", lines[1], example + "\n", example[:len(example)-1], example[:len(example)-1] + "\r\n", example + " ", example + "x", example + "[", example + "\x00", "\n" + example, example + example} {
		expectNone(t, s)
	}
}

func TestABlankMoreOrLess(t *testing.T) {
	for i := range len(example) + 1 {
		for _, blank := range []string{" ", "  ", "\t", "\n", "\r", "\u00a0"} {
			expectRead(t, example[:i]+blank+example[i:])
		}
	}
	// Within the texts that are no Size's, of ten runes, five and none, a blank more is another text; there is no other place for one.
	places := 0
	for i := range len(example) + 1 {
		if expectRead(t, example[:i]+" "+example[i:]) {
			places++
		}
	}
	if places != 11+6+1 {
		t.Error(places)
	}
	for i := range example {
		if example[i] == ' ' && example[i+1] != 0xC3 {
			expectNone(t, example[:i]+example[i+1:])
		}
	}
}

func TestFirstLinesThatAreOtherwise(t *testing.T) {
	for _, s := range []string{
		`{"version": 1, "width": 80, "height": 24}`,
		`{"version": 3, "width": 80, "height": 24}`,
		`{"version": 02, "width": 80, "height": 24}`,
		`{"version": 2.0, "width": 80, "height": 24}`,
		`{"version": "2", "width": 80, "height": 24}`,
		`{"version": , "width": 80, "height": 24}`,
		`{"version": 22, "width": 80, "height": 24}`,
		`{"Version": 2, "width": 80, "height": 24}`,
		`{"version": 2, "Width": 80, "height": 24}`,
		`{"version": 2, "width": 80, "HEIGHT": 24}`,
		`{"version": 2, "columns": 80, "height": 24}`,
		`{"version": 2, "width": 80, "lines": 24}`,
		`{version: 2, width: 80, height: 24}`,
		`{'version': 2, 'width': 80, 'height': 24}`,
		`{"\u0076ersion": 2, "width": 80, "height": 24}`,
		`{"version": 2, "height": 24, "width": 80}`,
		`{"width": 80, "version": 2, "height": 24}`,
		`{"width": 80, "height": 24, "version": 2}`,
		`{"version": 2, "width": 80, "height": 24, "title": "x"}`,
		`{"version": 2, "width": 80, "height": 24, "timestamp": 0}`,
		`{"title": "", "version": 2, "width": 80, "height": 24}`,
		`{"version": 2, "width": 80, "width": 80, "height": 24}`,
		`{"version": 2, "width": 80}`,
		`{"version": 2, "height": 24}`,
		`{"width": 80, "height": 24}`,
		`{"version": 2}`,
		`{}`,
		`["version": 2, "width": 80, "height": 24]`,
		`"version": 2, "width": 80, "height": 24`,
		`{"version": 2, "width": 80, "height": 24,}`,
		`{"version":2,"width":80,"height":24}`,
		`{"version": 2 , "width": 80, "height": 24}`,
		`{ "version": 2, "width": 80, "height": 24 }`,
		`{"version": 2,` + "\n" + `"width": 80, "height": 24}`,
		`{"version": 2; "width": 80; "height": 24}`,
		`{"version": 2, "width": 080, "height": 24}`,
		`{"version": 2, "width": 80, "height": 024}`,
		`{"version": 2, "width": 00, "height": 24}`,
		`{"version": 2, "width": 80, "height": 00}`,
		`{"version": 2, "width": -80, "height": 24}`,
		`{"version": 2, "width": 80, "height": -24}`,
		`{"version": 2, "width": -0, "height": 24}`,
		`{"version": 2, "width": +80, "height": 24}`,
		`{"version": 2, "width": 80, "height": +24}`,
		`{"version": 2, "width": 80.0, "height": 24}`,
		`{"version": 2, "width": 80, "height": 24.}`,
		`{"version": 2, "width": 8e1, "height": 24}`,
		`{"version": 2, "width": 0x50, "height": 24}`,
		`{"version": 2, "width": 8_0, "height": 24}`,
		`{"version": 2, "width": "80", "height": 24}`,
		`{"version": 2, "width": 80, "height": "24"}`,
		`{"version": 2, "width": null, "height": 24}`,
		`{"version": 2, "width": , "height": 24}`,
		`{"version": 2, "width": 80, "height": }`,
		`{"version": 2, "width": ٣, "height": 24}`,
		`{"version": 2, "width": 9223372036854775808, "height": 24}`,
		`{"version": 2, "width": 80, "height": 9223372036854775808}`,
		`{"version": 2, "width": 18446744073709551616, "height": 24}`,
		`{"version": 2, "width": 80, "height": 18446744073709551640}`,
		`{"version": 2, "width": ` + strings.Repeat("9", 1000) + `, "height": 24}`,
	} {
		for _, events := range []string{"", "[0.000000, \"o\", \"\"]\n"} {
			expectNone(t, s+"\n"+events)
		}
	}
}

func TestEventsThatAreOtherwise(t *testing.T) {
	for _, s := range []string{
		// Times.
		`[0, "o", ""]`, `[1, "o", ""]`, `[1., "o", ""]`, `[.000001, "o", ""]`, `[000001, "o", ""]`, `[0.1, "o", ""]`, `[0.00001, "o", ""]`, `[0.0000010, "o", ""]`, `[0.0000001, "o", ""]`,
		`[00.000001, "o", ""]`, `[01.000000, "o", ""]`, `[-0.000001, "o", ""]`, `[-1.000000, "o", ""]`, `[+1.000000, "o", ""]`, `[1,000000, "o", ""]`, `[1e6, "o", ""]`, `[0x1.000000, "o", ""]`,
		`[1.000 000, "o", ""]`, `["1.000000", "o", ""]`, `[null, "o", ""]`, `[, "o", ""]`, `["o", ""]`, `[1.00000x, "o", ""]`, `[1.00000٣, "o", ""]`,
		`[4611686018427.387904, "o", ""]`, `[4611686018427.387905, "o", ""]`, `[4611686018427.999999, "o", ""]`, `[4611686018428.000000, "o", ""]`, `[9223372036854.775807, "o", ""]`,
		`[9223372036854.775808, "o", ""]`, `[18446744073709.551616, "o", ""]`, `[18446744073709551616.000000, "o", ""]`, `[` + strings.Repeat("9", 1000) + `.000000, "o", ""]`,
		// Signs.
		`[0.000000, "O", ""]`, `[0.000000, "x", ""]`, `[0.000000, "e", ""]`, `[0.000000, "", ""]`, `[0.000000, " ", ""]`, `[0.000000, "oi", ""]`, `[0.000000, "oo", ""]`, `[0.000000, "o ", ""]`, `[0.000000, " o", ""]`,
		`[0.000000, o, ""]`, `[0.000000, 'o', ""]`, `[0.000000, 0, ""]`, `[0.000000, "0", ""]`, `[0.000000, , ""]`, `[0.000000, ""]`, `[0.000000, "\u006f", ""]`, `[0.000000, "o", "i", ""]`, `[0.000000, "` + "\x00" + `", ""]`,
		`[0.000000, "` + "\xff" + `", ""]`, `[0.000000, "out", ""]`, `[0.000000, "rm", "1x1"]`, `[0.000000, "mr", ""]`,
		// Sizes.
		`[0.000000, "r", ""]`, `[0.000000, "r", "0x24"]`, `[0.000000, "r", "80x0"]`, `[0.000000, "r", "0x0"]`, `[0.000000, "r", "1001x24"]`, `[0.000000, "r", "80x1001"]`, `[0.000000, "r", "1000x10000"]`,
		`[0.000000, "r", "080x24"]`, `[0.000000, "r", "80x024"]`, `[0.000000, "r", "80 x24"]`, `[0.000000, "r", "80x 24"]`, `[0.000000, "r", " 80x24"]`, `[0.000000, "r", "80x24 "]`, `[0.000000, "r", "80X24"]`,
		`[0.000000, "r", "8024"]`, `[0.000000, "r", "80"]`, `[0.000000, "r", "80x"]`, `[0.000000, "r", "x24"]`, `[0.000000, "r", "x"]`, `[0.000000, "r", "80xx24"]`, `[0.000000, "r", "80x24x"]`, `[0.000000, "r", "80x24x1"]`,
		`[0.000000, "r", "80x24y"]`, `[0.000000, "r", "80,24"]`, `[0.000000, "r", "80×24"]`, `[0.000000, "r", "-80x24"]`, `[0.000000, "r", "80x-24"]`, `[0.000000, "r", "+80x24"]`, `[0.000000, "r", "80.0x24"]`,
		`[0.000000, "r", "80x24.0"]`, `[0.000000, "r", "80x24\n"]`, `[0.000000, "r", "80x24\u0000"]`, `[0.000000, "r", "\u00380x24"]`, `[0.000000, "r", "80\u007824"]`, `[0.000000, "r", 80x24]`, `[0.000000, "r", [80, 24]]`,
		`[0.000000, "r", "9223372036854775807x1"]`, `[0.000000, "r", "1x9223372036854775807"]`, `[0.000000, "r", "9223372036854775808x1"]`, `[0.000000, "r", "1x9223372036854775808"]`,
		`[0.000000, "r", "18446744073709551617x1"]`, `[0.000000, "r", "1x18446744073709551617"]`, `[0.000000, "r", "4294967297x1"]`, `[0.000000, "r", "1x4294967297"]`, `[0.000000, "r", "65537x1"]`, `[0.000000, "r", "1x257"]x`,
		`[0.000000, "r", "` + strings.Repeat("1", 1000) + `x1"]`,
		// Texts.
		`[0.000000, "o", "\/"]`, `[0.000000, "o", "\t"]`, `[0.000000, "o", "\b"]`, `[0.000000, "o", "\f"]`, `[0.000000, "o", "\u0041"]`, `[0.000000, "o", "\u000a"]`, `[0.000000, "o", "\u000d"]`, `[0.000000, "o", "\u001B"]`,
		`[0.000000, "o", "\u007F"]`, `[0.000000, "o", "\U001b"]`, `[0.000000, "o", "\u0022"]`, `[0.000000, "o", "\u005c"]`, `[0.000000, "o", "\u00e9"]`, `[0.000000, "o", "\ufffd"]`, `[0.000000, "o", "\ud83d\ude00"]`,
		`[0.000000, "o", "\u1b"]`, `[0.000000, "o", "\u{1b}"]`, `[0.000000, "o", "\x1b"]`, `[0.000000, "o", "\e"]`, `[0.000000, "o", "\0"]`, `[0.000000, "o", "\'"]`, `[0.000000, "o", "\"]`, `[0.000000, "o", """]`,
		"[0.000000, \"o\", \"\t\"]", "[0.000000, \"o\", \"\n\"]", "[0.000000, \"o\", \"\r\"]", "[0.000000, \"o\", \"\x00\"]", "[0.000000, \"o\", \"\x1b\"]", "[0.000000, \"o\", \"\x7f\"]", "[0.000000, \"o\", \"\\\n\"]",
		"[0.000000, \"o\", \"\xff\"]", "[0.000000, \"o\", \"\x80\"]", "[0.000000, \"o\", \"\xc3\"]", "[0.000000, \"o\", \"\xed\xa0\x80\"]", "[0.000000, \"o\", \"\xc0\x80\"]", "[0.000000, \"o\", \"a\xe4\xb8\"]", "[0.000000, \"o\", \"\xf4\x90\x80\x80\"]",
		`[0.000000, "o", "x]`, `[0.000000, "o", "]`, `[0.000000, "o", x"]`, `[0.000000, "o", x]`, `[0.000000, "o", 'x']`, `[0.000000, "o", null]`, `[0.000000, "o", 1]`, `[0.000000, "o", ]`, `[0.000000, "o"]`, `[0.000000, "o", "x", ]`,
		`[0.000000, "o", "x", "y"]`, `[0.000000, "o", "x"], `, `[0.000000, "o", "x"],`, `[0.000000, "o", "x"]]`, `[0.000000, "o", "x"`, `0.000000, "o", "x"`, `{0.000000, "o", "x"}`, `(0.000000, "o", "x")`,
		`[0.000000,"o","x"]`, `[0.000000 , "o", "x"]`, `[ 0.000000, "o", "x" ]`, `[0.000000, "o" , "x"]`, `[0.000000, "o", "x" ]`, `[0.000000; "o"; "x"]`, "[0.000000,\t\"o\", \"x\"]", "[0.000000, \"o\",\n\"x\"]",
		`[0.000000, "o", "` + strings.Repeat("d", 401) + `"]`, `[0.000000, "m", "` + strings.Repeat("d", 1000) + `"]`, `[0.000000, "i", "` + strings.Repeat("é", 201) + `"]`, `[0.000000, "o", "` + strings.Repeat(`\u0000`, 401) + `"]`,
		`[0.000000, "o", "` + strings.Repeat("\ufffd", 134) + `"]`,
	} {
		expectNone(t, head+s+"\n")
		expectNone(t, head+"[0.000000, \"o\", \"\"]\n"+s+"\n[1.000000, \"o\", \"\"]\n")
		expectRead(t, head+s+"\n")
	}
}

func TestTimesThatGoBack(t *testing.T) {
	for _, s := range []string{
		"[0.000001, \"o\", \"\"]\n[0.000000, \"o\", \"\"]\n",
		"[1.000000, \"o\", \"\"]\n[0.999999, \"i\", \"\"]\n",
		"[1.000000, \"r\", \"1x1\"]\n[1.000000, \"m\", \"\"]\n[0.000000, \"m\", \"\"]\n",
		"[0.000000, \"o\", \"\"]\n[4611686018427.387903, \"m\", \"\"]\n[4611686018427.387902, \"m\", \"\"]\n[4611686018427.387903, \"m\", \"\"]\n",
		"[0.000005, \"o\", \"\"]\n[0.000004, \"r\", \"1x1\"]\n[0.000005, \"o\", \"\"]\n",
	} {
		expectNone(t, head+s)
	}
}

func TestTextsCutOffAtEachPlace(t *testing.T) {
	for i := range len(example) {
		if got, want := expectRead(t, example[:i]), i >= len(head) && example[i-1] == '\n'; got != want {
			t.Fatalf("%q", example[:i])
		}
		expectRead(t, example[i:])
	}
}

func TestTextsChangedInOnePlace(t *testing.T) {
	for i := range len(example) {
		for b := range 256 {
			expectRead(t, example[:i]+string([]byte{byte(b)})+example[i+1:])
		}
		for b := range 128 {
			expectRead(t, example[:i]+string(rune(b))+example[i:])
		}
		expectRead(t, example[:i]+example[i+1:])
		expectRead(t, example[:i]+example[i:i+1]+example[i:])
	}
}

// parts: of which casts, and what looks like them, are made.
func parts() []string {
	return []string{
		`{"version": 2, "width": `, `, "height": `, "}\n", "[", `, "`, `", `, `"`, "]\n", "\n", "0", "7", "80", "1000", "1001", ".", "000000", "000001", "x", "80x24", "o", "i", "r", "m", `\n`, `\u0009`, `\`, "é", "\xff", " ",
	}
}

func TestTextsThatLookLikeCasts(t *testing.T) {
	d := dice(20)
	read := 0
	for range 60000 {
		var s strings.Builder
		s.WriteString(pick(&d, head, head, head, `{"version": 2, "width": 0, "height": 0}`+"\n", ""))
		for range d.upTo(4) {
			for _, part := range []string{"[", pick(&d, "0", "1"), ".", pick(&d, "000000", "000001"), `, "`, pick(&d, "o", "i", "r", "r", "m"), `", "`, pick(&d, "80x24", "1x1", "x", "", `\n`), `"`, "]\n"} {
				s.WriteString(pick(&d, part, part, part, part, part, part, part, part, part, part, part, part, part, part, part, pick(&d, parts()...)))
			}
		}
		if expectRead(t, s.String()) {
			read++
		}
	}
	if read < 1000 || read > 59000 {
		t.Error(read)
	}
}

func TestTextsThatLookLikeChance(t *testing.T) {
	d := dice(21)
	for range 20000 {
		s := ""
		for range d.upTo(12) {
			s += pick(&d, parts()...)
		}
		expectRead(t, s)
		expectRead(t, head+s)
		expectRead(t, head+"["+s+"]\n")
	}
}
