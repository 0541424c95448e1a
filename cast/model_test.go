package cast_test

import (
	"encoding/json"
	"fmt"
	"slices"
	"strconv"
	"strings"
	"testing"
	"unicode/utf8"

	"flipbook/api"
	"flipbook/cast"
)

// dice are numbers that look like chance, the same ones each time.
type dice uint64

func (d *dice) upTo(n int) int {
	*d = *d*6364136223846793005 + 1442695040888963407
	return int(uint64(*d) >> 33 % uint64(n))
}

func pick[T any](d *dice, l ...T) T { return l[d.upTo(len(l))] }

// inQuotes: a text's Quote, by layer 3's words.
func inQuotes(s string) string {
	out := ""
	for s != "" {
		r, n := utf8.DecodeRuneInString(s)
		s = s[n:]
		switch {
		case r == 10:
			out += `\n`
		case r == 13:
			out += `\r`
		case r < 32 || r == 127:
			out += fmt.Sprintf(`\u%04x`, r)
		case strings.ContainsRune(`"\`, r):
			out += `\` + string(r)
		default:
			out += string(r)
		}
	}
	return `"` + out + `"`
}

// written: what Export is to write, by the chapter's words.
func written(w, h int, l []api.Event) string {
	s := fmt.Sprintf("{\"version\": 2, \"width\": %d, \"height\": %d}\n", w, h)
	for _, e := range l {
		text := e.Data
		if e.Kind == 2 {
			text = fmt.Sprintf("%dx%d", e.W, e.H)
		}
		s += fmt.Sprintf("[%d.%06d, \"%c\", %s]\n", e.Time/1000000, e.Time%1000000, "oirm"[e.Kind], inQuotes(text))
	}
	return s
}

// mayBe: a list is right, by layer 12's words.
func mayBe(l []api.Event) bool {
	for i, e := range l {
		if e.Time < 0 || e.Time >= 1<<62 || i > 0 && e.Time < l[i-1].Time || e.Kind < 0 || e.Kind > 3 || len(e.Data) > 400 {
			return false
		}
		if e.Kind == 2 && (e.Data != "" || min(e.W, e.H) < 1 || max(e.W, e.H) > 1000) || e.Kind != 2 && (e.W != 0 || e.H != 0) {
			return false
		}
	}
	return true
}

// meant: what a text means to one who reads any JSON, or what is the nearest to that. If it was written for a list, this is the list.
func meant(s string) (int, int, []api.Event) {
	head, lines, _ := strings.Cut(s, "\n")
	var size struct{ Width, Height int }
	json.Unmarshal([]byte(head), &size)
	var l []api.Event
	for line := range strings.Lines(lines) {
		l = append(l, meantEvent(line))
	}
	return size.Width, size.Height, l
}

func meantEvent(line string) api.Event {
	var parts []json.RawMessage
	var sign, text string
	json.Unmarshal([]byte(line), &parts)
	if len(parts) != 3 {
		return api.Event{}
	}
	json.Unmarshal(parts[1], &sign)
	json.Unmarshal(parts[2], &text)
	at, _ := strconv.Atoi(strings.ReplaceAll(string(parts[0]), ".", ""))
	e := api.Event{Time: at, Kind: slices.Index([]string{"o", "i", "r", "m"}, sign), Data: text}
	if e.Kind == 2 {
		e.Data = ""
		fmt.Sscanf(text, "%dx%d", &e.W, &e.H)
	}
	return e
}

// expectExport: l is written as s.
func expectExport(t *testing.T, w, h int, l []api.Event, s string) {
	t.Helper()
	if got := cast.Export(w, h, l...); got != s {
		t.Fatalf("%d, %d, %v: %q, and not %q", w, h, l, got, s)
	}
}

// expectImport: s is read as l.
func expectImport(t *testing.T, s string, w, h int, l []api.Event) {
	t.Helper()
	if gotW, gotH, got, e := cast.Import(s); gotW != w || gotH != h || !slices.Equal(got, l) || e != api.OK {
		t.Fatalf("%q: %d, %d, %v, %v", s, gotW, gotH, got, e)
	}
}

// expectNone: s is nobody's.
func expectNone(t *testing.T, s string) {
	t.Helper()
	if w, h, l, e := cast.Import(s); w != 0 || h != 0 || len(l) != 0 || e != api.ErrForm {
		t.Fatalf("%q: %d, %d, %v, %v", s, w, h, l, e)
	}
}

// expectBoth: l is written as s, and s is read as l.
func expectBoth(t *testing.T, w, h int, l []api.Event, s string) {
	t.Helper()
	expectExport(t, w, h, l, s)
	expectImport(t, s, w, h, l)
}

// expectRead: s is read as that which it is written for, or not at all. Answers whether it was read.
func expectRead(t *testing.T, s string) bool {
	t.Helper()
	w, h, l := meant(s)
	if mayBe(l) && w >= 0 && h >= 0 && written(w, h, l) == s {
		expectImport(t, s, w, h, l)
		return true
	}
	expectNone(t, s)
	return false
}

// head: the first line of a cast of 80 by 24.
const head = "{\"version\": 2, \"width\": 80, \"height\": 24}\n"

// chanceTime: one that isn't ahead of another.
func chanceTime(d *dice, from int) int {
	return min(from+pick(d, 0, 0, 1, 2, 999999, 1000000, d.upTo(100), d.upTo(3000000), 1<<50, 1<<61), 1<<62-1)
}

// chanceText: UTF-8 of not too many bytes.
func chanceText(d *dice) string {
	s := ""
	for range pick(d, 0, 0, 1, 2, 5, 20, 90) {
		s += pick(d, "a", "o", "80x24", " ", "/", `"`, `\`, `\n`, "\n", "\r", "\t", "\x00", "\x1b", "\x7f", "\u0080", "é", "中", "\ufffd", "😀", `", "`, "]\n[", string(rune(d.upTo(0xD800))))
	}
	for len(s) > 400 {
		_, n := utf8.DecodeLastRuneInString(s)
		s = s[:len(s)-n]
	}
	return s
}

func chanceEvent(d *dice, from int) api.Event {
	e := api.Event{Time: chanceTime(d, from), Kind: d.upTo(4)}
	if e.Kind == 2 {
		e.W, e.H = pick(d, 1, 80, 1000, 1+d.upTo(1000)), pick(d, 1, 24, 1000, 1+d.upTo(1000))
		return e
	}
	e.Data = chanceText(d)
	return e
}

// chance: a right list that looks like it, of up to n events.
func chance(d *dice, n int) []api.Event {
	var l []api.Event
	from := 0
	for range d.upTo(n + 1) {
		l = append(l, chanceEvent(d, from))
		from = l[len(l)-1].Time
	}
	return l
}

func chanceSide(d *dice) int {
	return pick(d, 0, 1, 9, 10, 80, 24, d.upTo(1000), d.upTo(1<<31), 1<<62, 1<<63-1)
}
