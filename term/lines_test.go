package term_test

import (
	"strconv"
	"strings"
	"testing"

	"flipbook/api"
	"flipbook/term"
)

// Which lines go behind r, and where the cursor is: Home, whether they were two or not.
func TestLinesThatGo(t *testing.T) {
	for _, x := range []struct {
		bytes    string
		top, end int
	}{
		{"", 0, 5}, {"\x1b[r", 0, 5}, {"\x1b[0r", 0, 5}, {"\x1b[0;0r", 0, 5}, {"\x1b[1;5r", 0, 5},
		{"\x1b[2r", 1, 5}, {"\x1b[;3r", 0, 3}, {"\x1b[2;4r", 1, 4}, {"\x1b[2;0r", 1, 5},
		{"\x1b[4;5r", 3, 5}, {"\x1b[1;2r", 0, 2}, {"\x1b[4r", 3, 5}, {"\x1b[2;6r", 1, 5}, {"\x1b[2;9999r", 1, 5}, {"\x1b[4;99999r", 3, 5},
		{"\x1b[2;4;1r", 1, 4}, {"\x1b[2;4r\x1b[r", 0, 5}, {"\x1b[2;4r\x1b[1;2r", 0, 2},
		// Fewer than two: those that went go on.
		{"\x1b[2;4r\x1b[3;3r", 1, 4}, {"\x1b[2;4r\x1b[4;3r", 1, 4}, {"\x1b[2;4r\x1b[1;1r", 1, 4}, {"\x1b[2;4r\x1b[;1r", 1, 4},
		{"\x1b[2;4r\x1b[5r", 1, 4}, {"\x1b[2;4r\x1b[5;0r", 1, 4}, {"\x1b[2;4r\x1b[5;9r", 1, 4}, {"\x1b[2;4r\x1b[6r", 1, 4}, {"\x1b[2;4r\x1b[6;9r", 1, 4}, {"\x1b[2;4r\x1b[9999;9999r", 1, 4},
		{"\x1b[2;4r\x1b[?1;5r", 1, 4}, {"\x1b[2;4r\x1b[ r", 1, 4},
	} {
		for _, origin := range []bool{false, true} {
			y := term.New(4, 5)
			if origin {
				y.Write("\x1b[?6h")
			}
			y.Write(x.bytes)
			if y.Top != x.top || y.End != x.end {
				t.Errorf("%q: the lines from %d up to %d go, want %d, %d", x.bytes, y.Top, y.End, x.top, x.end)
			}
		}
	}
	expectRows(t, 4, 5,
		row{"the cursor is at home", "\x1b[4;3H\x1b[2;4r", "|||| @0,0"},
		row{"Late", "abcd\x1b[r", "abcd|||| @0,0"},
		row{"with Origin", "\x1b[?6h\x1b[4;3H\x1b[2;4r", "|||| @0,1"},
		row{"with Origin, twice", "\x1b[?6h\x1b[2;4r\x1b[3;3H\x1b[3;4r", "|||| @0,2"},
		row{"fewer than two", "\x1b[4;3H\x1b[3;3r", "|||| @0,0"},
		row{"fewer than two with Origin", "\x1b[?6h\x1b[2;4r\x1b[3;3H\x1b[3;3r", "|||| @0,1"},
	)
	expectRows(t, 4, 1, row{"a screen of one line", "abcd\x1b[r", "abcd @0,0"})
	x := term.New(4, 1)
	x.Write("\x1b[r\x1b[1;1r\x1b[2r")
	if x.Top != 0 || x.End != 1 {
		t.Errorf("of one line those from %d up to %d go", x.Top, x.End)
	}
}

// five lines, of which the second, the third and the fourth one go.
const five = "a\r\nb\r\nc\r\nd\r\ne"

const ofFive = five + "\x1b[2;4r"

func TestLinesComeInAndGoOut(t *testing.T) {
	expectRows(t, 2, 5,
		row{"L", five + "\x1b[2;2H\x1b[L", "a||b|c|d @1,1"},
		row{"L of 0", five + "\x1b[2;2H\x1b[0L", "a||b|c|d @1,1"},
		row{"L of 2", five + "\x1b[2;2H\x1b[2L", "a|||b|c @1,1"},
		row{"L of all", five + "\x1b[2;2H\x1b[4L", "a|||| @1,1"},
		row{"L of one more", five + "\x1b[2;2H\x1b[5L", "a|||| @1,1"},
		row{"L of the most", five + "\x1b[2;2H\x1b[9999L", "a|||| @1,1"},
		row{"L in the last line", five + "\x1b[L", "a|b|c|d| @1,4"},
		row{"L, Late", five + "f\x1b[L", "a|b|c|d| @1,4L"},
		row{"L in the first line that goes", ofFive + "\x1b[2;1H\x1b[L", "a||b|c|e @0,1"},
		row{"L among those that go", ofFive + "\x1b[3;1H\x1b[L", "a|b||c|e @0,2"},
		row{"L in the last line that goes", ofFive + "\x1b[4;1H\x1b[9L", "a|b|c||e @0,3"},
		row{"L ahead of those that go", ofFive + "\x1b[1;1H\x1b[L", "a|b|c|d|e @0,0"},
		row{"L behind those that go", ofFive + "\x1b[5;1H\x1b[L", "a|b|c|d|e @0,4"},
		row{"M", five + "\x1b[2;2H\x1b[M", "a|c|d|e| @1,1"},
		row{"M of 0", five + "\x1b[2;2H\x1b[0M", "a|c|d|e| @1,1"},
		row{"M of 2", five + "\x1b[2;2H\x1b[2M", "a|d|e|| @1,1"},
		row{"M of all", five + "\x1b[2;2H\x1b[4M", "a|||| @1,1"},
		row{"M of one more", five + "\x1b[2;2H\x1b[5M", "a|||| @1,1"},
		row{"M of the most", five + "\x1b[2;2H\x1b[9999M", "a|||| @1,1"},
		row{"M, Late", five + "f\x1b[M", "a|b|c|d| @1,4L"},
		row{"M in the first line that goes", ofFive + "\x1b[2;1H\x1b[M", "a|c|d||e @0,1"},
		row{"M among those that go", ofFive + "\x1b[3;1H\x1b[M", "a|b|d||e @0,2"},
		row{"M in the last line that goes", ofFive + "\x1b[4;1H\x1b[9M", "a|b|c||e @0,3"},
		row{"M ahead of those that go", ofFive + "\x1b[1;1H\x1b[M", "a|b|c|d|e @0,0"},
		row{"M behind those that go", ofFive + "\x1b[5;1H\x1b[M", "a|b|c|d|e @0,4"},
		row{"S", five + "\x1b[S", "b|c|d|e| @1,4"},
		row{"S of 0", five + "\x1b[0S", "b|c|d|e| @1,4"},
		row{"S of 3", five + "\x1b[3S", "d|e||| @1,4"},
		row{"S of all", five + "\x1b[5S", "|||| @1,4"},
		row{"S of the most", five + "\x1b[9999S", "|||| @1,4"},
		row{"S, Late", five + "f\x1b[S", "b|c|d|ef| @1,4L"},
		row{"S with the cursor ahead of those that go", ofFive + "\x1b[1;1H\x1b[S", "a|c|d||e @0,0"},
		row{"S with the cursor among those that go", ofFive + "\x1b[3;1H\x1b[2S", "a|d|||e @0,2"},
		row{"S with the cursor behind those that go", ofFive + "\x1b[5;1H\x1b[4S", "a||||e @0,4"},
		row{"T", five + "\x1b[T", "|a|b|c|d @1,4"},
		row{"T of 0", five + "\x1b[0T", "|a|b|c|d @1,4"},
		row{"T of 3", five + "\x1b[3T", "|||a|b @1,4"},
		row{"T of all", five + "\x1b[5T", "|||| @1,4"},
		row{"T of the most", five + "\x1b[9999T", "|||| @1,4"},
		row{"T, Late", five + "f\x1b[T", "|a|b|c|d @1,4L"},
		row{"T with the cursor ahead of those that go", ofFive + "\x1b[1;1H\x1b[T", "a||b|c|e @0,0"},
		row{"T with the cursor among those that go", ofFive + "\x1b[3;1H\x1b[2T", "a|||b|e @0,2"},
		row{"T with the cursor behind those that go", ofFive + "\x1b[5;1H\x1b[4T", "a||||e @0,4"},
	)
}

// What went out at the top, and is kept; of what isn't a line on or S nothing is.
func TestBack(t *testing.T) {
	for _, x := range []struct{ name, bytes, want string }{
		{"nothing", "", ""},
		{"a line on by 10", five + "\n", "a"},
		{"by 11 and 12", five + "\v\f", "a|b"},
		{"by D", five + "\x1bD", "a"},
		{"by E", five + "\x1bE\x1bE", "a|b"},
		{"by a rune", five + "fgh", "a"},
		{"by a wide one", five + "\x1b[5;2H中", "a"},
		{"by S", five + "\x1b[2S", "a|b"},
		{"by S of all", five + "\x1b[9S", "a|b|c|d|e"},
		{"by S, the cursor anywhere", five + "\x1b[H\x1b[S\x1b[3;1H\x1b[S", "a|b"},
		{"one behind the other", five + "\n\x1b[S\x1bD\n", "a|b|c|d"},
		{"lines that go from the first one on", five + "\x1b[1;3r\x1b[3;1H\n\x1b[S", "a|b"},
		{"lines that go from the second one on", ofFive + "\x1b[4;1H\n\x1bD\x1bE\x1b[SABCD", ""},
		{"by M", five + "\x1b[H\x1b[2M", ""},
		{"by M where one goes", five + "\x1b[1;2r\x1b[M", ""},
		{"by T and L", five + "\x1b[3T\x1b[H\x1b[2L", ""},
		{"by ESC M", five + "\x1b[H\x1bM\x1bM", ""},
		{"by J", five + "\x1b[2J\x1b[H\x1b[J", ""},
		{"on the second screen", five + "\x1b[?1049h\n\n\x1b[3S" + five + "f", ""},
		{"on both", five + "\n\x1b[?1049h\n\n\x1b[?1049l\n", "a|b"},
		{"emptied", five + "\n\n\x1b[3J", ""},
		{"emptied on the second screen", five + "\n\n\x1b[?1049h\x1b[3J", ""},
		{"emptied, and more", five + "\n\n\x1b[3J\n", "c"},
		{"not emptied by 0, 1, 2, 4", five + "\n\n\x1b[J\x1b[1J\x1b[2J\x1b[4J\x1b[?3J", "a|b"},
		{"not emptied by K", five + "\n\n\x1b[3K", "a|b"},
	} {
		y := term.New(2, 5)
		y.Write(x.bytes)
		if got := texts(y.Back); got != x.want {
			t.Errorf("%s: %q: %q, want %q", x.name, x.bytes, got, x.want)
		}
		sound(t, x.name, y)
	}
}

func TestBackHasTheLastOnes(t *testing.T) {
	var lines []string
	y := term.New(3, 2)
	for i := range 30 {
		lines = append(lines, strconv.Itoa(i))
		y.Write(strconv.Itoa(i) + "\r\n")
		want := lines[max(0, i-api.MaxBack):max(i, 0)]
		if got := texts(y.Back); got != strings.Join(want, "|") {
			t.Fatalf("behind line %d: %s, want %s", i, got, strings.Join(want, "|"))
		}
	}
	// Many at once: of those that there were, and of those that go out, the last ones.
	lines = nil
	for i := range 59 {
		lines = append(lines, strconv.Itoa(i))
	}
	for _, n := range []int{1, 2, 3, 18, 19, 20, 21, 22, 58} {
		z := term.New(3, 60)
		z.Write("x\r\ny\x1b[S\x1b[S\x1b[H" + strings.Join(lines, "\r\n") + csi("S", n))
		want := append([]string{"x", "y"}, lines[:n]...)
		want = want[max(0, len(want)-20):]
		if got := texts(z.Back); got != strings.Join(want, "|") {
			t.Errorf("%d S: %s, want %s", n, got, strings.Join(want, "|"))
		}
	}
	y.Write("\x1b[3J")
	if len(y.Back) != 0 {
		t.Errorf("there went out %s", texts(y.Back))
	}
}

// A line that is kept has its cells with their styles, and stays as it is.
func TestBackHasCells(t *testing.T) {
	x := term.New(4, 2)
	x.Write("\x1b[1;31ma中\x1b[42m\x1b[K\x1b[2;1H\x1b[mb\r\n")
	red := api.Style{Bold: true, Fore: 2}
	want := []api.Cell{{Rune: 'a', Style: red}, {Rune: '中', Style: red}, {Style: red}, {Rune: ' ', Style: api.Style{Back: 3}}}
	if !sameLines(x.Back, [][]api.Cell{want}) {
		t.Fatalf("%v", x.Back)
	}
	x.Write("\x1b[H\x1b[2Jxyzuvw\x1b[?1049h\x1b[2J")
	x.Resize(9, 5)
	if !sameLines(x.Back, [][]api.Cell{want}) {
		t.Errorf("%v", x.Back)
	}
}
