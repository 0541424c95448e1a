package term_test

import (
	"strings"
	"testing"

	"flipbook/term"
)

func TestAnswers(t *testing.T) {
	for _, x := range []struct{ name, bytes, want string }{
		{"n", "\x1b[n", ""},
		{"n of 0", "\x1b[0n", ""},
		{"n of 4 and 7", "\x1b[4n\x1b[7n\x1b[9999n", ""},
		{"5 n", "\x1b[5n", "\x1b[0n"},
		{"5 n, and more parameters", "\x1b[5;6n", "\x1b[0n"},
		{"6 n in the first place", "\x1b[6n", "\x1b[1;1R"},
		{"6 n", "\x1b[3;5H\x1b[6n", "\x1b[3;5R"},
		{"6 n in the last place", "\x1b[99;99H\x1b[6n", "\x1b[12;20R"},
		{"6 n, Late", strings.Repeat("x", 20) + "\x1b[6n", "\x1b[1;20R"},
		{"6 n, with lines that go, without Origin", "\x1b[3;9r\x1b[4;5H\x1b[6n", "\x1b[4;5R"},
		{"6 n with Origin", "\x1b[3;9r\x1b[?6h\x1b[6n", "\x1b[1;1R"},
		{"6 n with Origin, elsewhere", "\x1b[3;9r\x1b[?6h\x1b[4;5H\x1b[6n", "\x1b[4;5R"},
		{"6 n with Origin, in the last line that goes", "\x1b[3;9r\x1b[?6h\x1b[99;2H\x1b[6n", "\x1b[7;2R"},
		{"6 n with Origin, behind the lines that go", "\x1b[12;2H\x1b7\x1b[3;9r\x1b[?6h\x1b8\x1b[6n", "\x1b[10;2R"},
		{"6 n with Origin on and off", "\x1b[3;9r\x1b[?6h\x1b[4;5H\x1b[?6l\x1b[4;5H\x1b[6n", "\x1b[4;5R"},
		{"5 n with Origin", "\x1b[3;9r\x1b[?6h\x1b[5n", "\x1b[0n"},
		{"c", "\x1b[c", "\x1b[?6c"},
		{"c of 0", "\x1b[0c", "\x1b[?6c"},
		{"c of no first parameter", "\x1b[;1c", "\x1b[?6c"},
		{"c of others", "\x1b[1c\x1b[1;0c\x1b[9999c", ""},
		{"c with Origin", "\x1b[3;9r\x1b[?6h\x1b[c", "\x1b[?6c"},
		{"all, one behind the other", "\x1b[c\x1b[2;3H\x1b[6n\x1b[5n", "\x1b[?6c\x1b[2;3R\x1b[0n"},
		{"with marks", "\x1b[?5n\x1b[?6n\x1b[>c\x1b[?c\x1b[!5n\x1b[ 6n", ""},
		{"ESC c isn't c", "\x1bc", ""},
	} {
		y := term.New(20, 12)
		y.Write(x.bytes)
		if y.Reply != x.want {
			t.Errorf("%s: %q: Reply is %q, want %q", x.name, x.bytes, y.Reply, x.want)
		}
		if got := y.Take(); got != x.want || y.Reply != "" {
			t.Errorf("%s: %q: %q is answered, want %q; %q is left", x.name, x.bytes, got, x.want, y.Reply)
		}
		sound(t, x.name, y)
	}
}

// The answer changes nothing but Reply.
func TestAnswersAlone(t *testing.T) {
	x, y := term.New(3, 2), term.New(3, 2)
	x.Write("abc")
	y.Write("abc\x1b[5n\x1b[6n\x1b[c")
	y.Take()
	expectSame(t, "behind answers", y, x)
}

func TestRepliesHaveAnEnd(t *testing.T) {
	const status, place, kind = "\x1b[5n", "\x1b[6n", "\x1b[c" // of 4, 6 and 5 bytes
	for _, x := range []struct {
		name string
		asks []string
		n    []int
		more string
		want int
	}{
		{"the most", []string{status}, []int{100}, "", 400},
		{"one more", []string{status}, []int{101}, "", 400},
		{"far more", []string{status}, []int{300}, kind + place, 400},
		{"one byte too many", []string{status, kind}, []int{99, 1}, "", 396},
		{"two bytes too many", []string{status, place}, []int{99, 1}, "", 396},
		{"one that fits behind one that doesn't", []string{status, kind, status}, []int{99, 1, 1}, "", 400},
		{"the most, of c", []string{kind}, []int{80}, "", 400},
		{"one c more", []string{kind}, []int{81}, "", 400},
		{"the most of 6 n", []string{place}, []int{67}, "", 396},
		{"the most of 6 n, and one that fits", []string{place, status}, []int{67, 3}, "", 400},
		{"399 bytes", []string{place, kind, status}, []int{1, 1, 97}, "", 399},
		{"399 bytes, and one more", []string{place, kind, status}, []int{1, 1, 97}, status + kind + place, 399},
	} {
		y := term.New(4, 4)
		bytes := ""
		for i, ask := range x.asks {
			bytes += strings.Repeat(ask, x.n[i])
		}
		y.Write(bytes + x.more)
		if len(y.Reply) != x.want {
			t.Errorf("%s: Reply has %d bytes, want %d", x.name, len(y.Reply), x.want)
		}
		first := y.Take()
		y.Write(place)
		if got := y.Take(); len(first) != x.want || got != "\x1b[1;1R" {
			t.Errorf("%s: %d bytes are answered, and %q behind them", x.name, len(first), got)
		}
	}
	// The longest one of all.
	y := term.New(60, 60)
	y.Write("\x1b[60;60H" + strings.Repeat(place, 60))
	if want := strings.Repeat("\x1b[60;60R", 50); y.Take() != want {
		t.Error("of 60 answers of 8 bytes there aren't the first 50")
	}
}

func TestTitles(t *testing.T) {
	long := strings.Repeat("t", 38)
	for _, x := range []struct{ name, bytes, want string }{
		{"0", "\x1b]0;name\x07", "name"},
		{"2", "\x1b]2;name\x07", "name"},
		{"closed by ESC \\", "\x1b]2;name\x1b\\", "name"},
		{"none, behind one", "\x1b]0;name\x07\x1b]0;\x07", ""},
		{"none by 2, behind one", "\x1b]0;name\x07\x1b]2;\x07", ""},
		{"one behind the other", "\x1b]0;name\x07\x1b]2;other\x07", "other"},
		{"more signs of its kind", "\x1b]0;0;2;a;\x07", "0;2;a;"},
		{"blanks", "\x1b]2; a \x07", " a "},
		{"other beginnings", "\x1b]0;name\x07\x1b]1;a\x07\x1b]3;a\x07\x1b]02;a\x07\x1b]20;a\x07\x1b];a\x07\x1b] 0;a\x07\x1b]a\x07\x1b]l;a\x07", "name"},
		{"no text", "\x1b]0;name\x07\x1b]\x07", "name"},
		{"half a beginning", "\x1b]0;name\x07\x1b]0\x07\x1b]2\x07\x1b]0:a\x07\x1b]2 a\x07", "name"},
		{"a DCS", "\x1b]0;name\x07\x1bP0;a\x1b\\\x1bP2;a\x1b\\", "name"},
		{"given up", "\x1b]0;name\x07\x1b]0;a\x18\x1b]0;b\x1a\x1b]2;c\x1b[m", "name"},
		{"not finished", "\x1b]0;name\x07\x1b]0;a", "name"},
		{"the most", "\x1b]0;" + long + "\x07", long},
		{"more than the most", "\x1b]2;" + long + "uvw\x07", long},
		{"bytes that are no runes", "\x1b]0;\xff\xc3é中\x80\x07", "\xff\xc3é中\x80"},
	} {
		y := term.New(9, 2)
		y.Write(x.bytes)
		if y.Title != x.want || len(y.Title) > 40 {
			t.Errorf("%s: %q: %q, want %q", x.name, x.bytes, y.Title, x.want)
		}
		if !strings.HasSuffix(x.bytes, "a") && shown(y) != "| @0,0" {
			t.Errorf("%s: %q: %s", x.name, x.bytes, shown(y))
		}
	}
}
