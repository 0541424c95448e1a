package vt_test

import (
	"fmt"
	"math/rand"
	"slices"
	"strings"
	"testing"

	"flipbook/api"
	"flipbook/vt"
)

// edges: the least and the greatest byte of each kind that the chapter tells apart.
const edges = "\x00\x06\x07\x08\x17\x18\x19\x1a\x1b\x1c\x1f /019:;<?@OPQZ[\\]^~\x7f\x80\xa9\xbf\xc0\xc3\xe2\xf0\xff"

// differs: where a text tells otherwise than the model says, byte by byte or as a whole; empty, if nowhere.
func differs(s string) string {
	p, all := vt.Parser{}, []api.Act(nil)
	for i := range len(s) {
		var told []api.Act
		p, told = p.Feed(s[i])
		all = append(all, told...)
		if !p.Right() {
			return fmt.Sprintf("%q: %+v isn't right", s[:i+1], p)
		}
		if q, want := modelled(s[:i+1]); !same(p, q) || !sameActs(all, want) {
			return fmt.Sprintf("%q: %+v, %+v; want %+v, %+v", s[:i+1], all, p, want, q)
		}
	}
	if q, told := (vt.Parser{}).All(s); !same(p, q) || !sameActs(told, all) {
		return fmt.Sprintf("%q as a whole: %+v, %+v; want %+v, %+v", s, told, q, all, p)
	}
	return ""
}

func TestBytesLeadToEachState(t *testing.T) {
	for _, p := range ofEachState() {
		if q, told := (vt.Parser{}).All(lead(p)); !same(p, q) || len(told) != 0 {
			t.Errorf("%q: %+v, %+v, want %+v", lead(p), told, q, p)
		}
	}
}

// Each state with each byte, and with each edge behind that.
func TestEachStateWithEachByte(t *testing.T) {
	for _, p := range ofEachState() {
		for c := range 256 {
			s := string([]byte{byte(c)})
			want, acts := modelled(lead(p) + s)
			if q, told := p.Feed(byte(c)); !same(q, want) || !sameActs(told, acts) || !q.Right() {
				t.Fatalf("%+v, %q: %+v, %+v; want %+v, %+v", p, s, told, q, acts, want)
			}
			for i := range len(edges) {
				s := s + edges[i:i+1]
				want, acts := modelled(lead(p) + s)
				if q, told := p.All(s); !same(q, want) || !sameActs(told, acts) || !q.Right() {
					t.Fatalf("%+v, %q: %+v, %+v; want %+v, %+v", p, s, told, q, acts, want)
				}
			}
		}
	}
}

// All rows of up to four of these behind ESC, and of up to three of them behind a text that is begun.
func TestShortRows(t *testing.T) {
	bytes := "\x07\x18\x1b (17:;?[\\]Pm\x7f\xc3\xa9"
	row := make([]byte, 4)
	var rows func(ahead string, n, most int)
	rows = func(ahead string, n, most int) {
		if n == most {
			if d := differs(ahead + string(row[:n])); d != "" {
				t.Fatal(d)
			}
			return
		}
		for i := range len(bytes) {
			row[n] = bytes[i]
			rows(ahead, n+1, most)
		}
	}
	rows("\x1b", 0, 4)
	rows("\x1b[1;2", 0, 3)
	rows("\x1b]t", 0, 3)
	rows("\x1bPt", 0, 3)
	rows("\xe2\x82", 0, 3)
}

// anyRow: pieces of sequences, edges and any bytes, one behind the other.
func anyRow(rnd *rand.Rand, pieces int) string {
	var row strings.Builder
	whole := texts()
	for range pieces {
		switch rnd.Intn(5) {
		case 0:
			row.WriteByte(byte(rnd.Intn(256)))
		case 1:
			row.WriteString(whole[rnd.Intn(len(whole))])
		case 2:
			p := ofEachState()
			row.WriteString(lead(p[rnd.Intn(len(p))]))
		case 3:
			row.WriteString([]string{"\x1b[", "\x1b]", "\x1bP", "\x1b\\", "\x1b"}[rnd.Intn(5)])
		default:
			row.WriteByte(edges[rnd.Intn(len(edges))])
		}
	}
	return row.String()
}

func TestLongRows(t *testing.T) {
	rnd := rand.New(rand.NewSource(6))
	for range 400 {
		if d := differs(anyRow(rnd, 1+rnd.Intn(25))); d != "" {
			t.Fatal(d)
		}
	}
}

// texts: of each kind of act, of each way in which one is cut off.
func texts() []string {
	return []string{
		"", "a", "é", "\xe2\x82", "\xe2\x82\x1bc", "ab\ncd", "\x1b[1;2H", "\x1b[?25l", "\x1b]0;t\x07", "\x1b]0;t\x1b\\", "\x1bPq\x07r\x1b\\",
		"\x1b(0", "\x1b(()0", "\x1b[1:2mx", "\x1b[???mx", "\x1b[\n1m", "\x1b[99999m", "\x1b[;;;;;;;;9m", "\x1b]x\x1b[7m", "\x1b]x\x1b\x1b\\",
		"\x1b[1\x18m", "\x1b]a\x18b", "\x1bP\xc3\xa9\x1b\\", "\xf0\x9f\x98\x80", "\xf0\x9f\x98\x1b7",
	}
}

// However a text is parted, the same is told, and the same parser stands behind it.
func TestPartedInEveryWay(t *testing.T) {
	for _, s := range texts() {
		want, told := vt.Parser{}.All(s)
		for cuts := range 1 << max(len(s)-1, 0) {
			p, all := parted(s, cuts)
			if !same(p, want) || !sameActs(all, told) {
				t.Fatalf("%q, cut at %b: %+v, %+v; want %+v, %+v", s, cuts, all, p, told, want)
			}
		}
	}
}

// parted: what a text tells that is cut behind the bytes whose bits are set. A parser that is kept between is no more than its fields.
func parted(s string, cuts int) (vt.Parser, []api.Act) {
	var all []api.Act
	p, from := vt.Parser{}, 0
	for i := 1; i <= len(s); i++ {
		if i < len(s) && cuts&(1<<(i-1)) == 0 {
			continue
		}
		q, told := p.All(s[from:i])
		all = append(all, told...)
		p = vt.Parser{State: q.State, Utf: q.Utf, Marks: q.Marks, Params: slices.Clone(q.Params), Text: q.Text, Within: q.Within}
		from = i
	}
	return p, all
}

func TestLongRowsInTwoAndInThree(t *testing.T) {
	rnd := rand.New(rand.NewSource(62))
	for range 300 {
		s := anyRow(rnd, 1+rnd.Intn(30))
		want, told := vt.Parser{}.All(s)
		for i := range len(s) + 1 {
			j := i + rnd.Intn(len(s)-i+1)
			p, first := vt.Parser{}.All(s[:i])
			p, second := p.All(s[i:j])
			p, third := p.All(s[j:])
			if all := slices.Concat(first, second, third); !same(p, want) || !sameActs(all, told) {
				t.Fatalf("%q at %d, %d: %+v, %+v; want %+v, %+v", s, i, j, all, p, told, want)
			}
		}
	}
}

// holds: has a parser no more than may be, whatever Right says?
func holds(p vt.Parser) bool {
	within := p.Within == 0
	if p.State == vt.Closing {
		within = p.Within == vt.String || p.Within == vt.Device
	}
	return p.State >= 0 && p.State <= vt.Closing && within && p.Utf.Right() && len(p.Marks) <= 2 && len(p.Params) <= api.MaxParams && len(p.Text) <= api.MaxText &&
		!slices.ContainsFunc(p.Params, func(n int) bool { return n < 0 || n > api.MaxParam })
}

func TestNoStateHoldsMoreThanMayBe(t *testing.T) {
	rnd := rand.New(rand.NewSource(63))
	for range 300 {
		p, s := vt.Parser{}, anyRow(rnd, 1+rnd.Intn(60))
		for i := range len(s) {
			p, _ = p.Feed(s[i])
			if !holds(p) || !p.Right() {
				t.Fatalf("%q: %+v", s[:i+1], p)
			}
		}
	}
	for _, p := range ofEachState() {
		for i := range len(edges) {
			if q, _ := p.All(strings.Repeat(edges[i:i+1], 300)); !holds(q) || !q.Right() {
				t.Errorf("%+v, %q again and again: %+v", p, edges[i], q)
			}
		}
	}
}

func TestBehindByte24EachParserIsTheZeroOne(t *testing.T) {
	for _, p := range ofEachState() {
		if q, _ := p.Feed(24); !same(q, vt.Parser{}) {
			t.Errorf("%+v: %+v", p, q)
		}
	}
	rnd := rand.New(rand.NewSource(64))
	for range 500 {
		p, _ := vt.Parser{}.All(anyRow(rnd, 1+rnd.Intn(20)))
		if q, _ := p.Feed(24); !same(q, vt.Parser{}) {
			t.Errorf("%+v: %+v", p, q)
		}
	}
}
