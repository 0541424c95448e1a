package json_test

import (
	"fmt"
	"math"
	"math/big"
	"strings"
	"testing"

	"flipbook/json"
)

const mostSeconds = 4611686018427

// times: numbers of millionths to write and to read back.
func times() []int {
	l := []int{0, 1, 9, 10, 99, 100, 1500000, 999999, 1000000, 1000001, 59999999, 1 << 62, 1<<62 - 1, 1<<62 + 1}
	for n := 1; n <= mostSeconds*1000000/10; n *= 10 {
		l = append(l, n-1, n, n+1, 3*n, 9*n+8)
	}
	for n := range 2000 {
		l = append(l, n*1237, n*1000, n*n*n)
	}
	return append(l, mostSeconds*1000000, mostSeconds*1000000+999999, mostSeconds*1000000-1)
}

// expectNumber: n, and what is behind it, are what a call has read of s.
func expectNumber(t *testing.T, read func(string) (int, string, bool), s string, n int, left string) {
	t.Helper()
	if x, rest, ok := read(s); x != n || rest != left || !ok {
		t.Fatalf("%q: %d, %q, %v", s, x, rest, ok)
	}
}

// expectNoNumber: a call reads nothing of s.
func expectNoNumber(t *testing.T, read func(string) (int, string, bool), s string) {
	t.Helper()
	if x, rest, ok := read(s); x != 0 || rest != "" || ok {
		t.Fatalf("%q: %d, %q, %v", s, x, rest, ok)
	}
}

func TestTimeOfTheExample(t *testing.T) {
	if s := json.Time(1500000); s != "1.500000" {
		t.Error(s)
	}
}

func TestTime(t *testing.T) {
	for n, want := range map[int]string{
		0:                                "0.000000",
		1:                                "0.000001",
		10:                               "0.000010",
		123456:                           "0.123456",
		999999:                           "0.999999",
		1000000:                          "1.000000",
		1000001:                          "1.000001",
		10000000:                         "10.000000",
		61000100:                         "61.000100",
		1 << 62:                          "4611686018427.387904",
		mostSeconds*1000000 + 999999:     "4611686018427.999999",
		(mostSeconds + 1) * 1000000:      "4611686018428.000000",
		math.MaxInt64:                    "9223372036854.775807",
		math.MaxInt64 - 775807:           "9223372036854.000000",
		math.MaxInt64 - 775807 - 1000000: "9223372036853.000000",
	} {
		if s := json.Time(n); s != want {
			t.Errorf("%d: %s", n, s)
		}
	}
	for _, n := range times() {
		if s := json.Time(n); s != fmt.Sprintf("%d.%06d", n/1000000, n%1000000) {
			t.Fatalf("%d: %s", n, s)
		}
	}
}

// A time below 0 is nobody's to hand in; the call ends all the same (P0).
func TestTimeBelowNoughtEnds(t *testing.T) {
	for _, n := range []int{-1, -10, -999999, -1000000, -1000001, math.MinInt64, math.MinInt64 + 1} {
		json.Time(n)
	}
}

func TestTimesComeBack(t *testing.T) {
	for _, n := range times() {
		s := json.Time(n)
		for _, left := range []string{"", "0", "9", ".", "e5", "s", " ", "-", ",", "\xff", "é", ".000001", s} {
			expectNumber(t, json.Untime, s+left, n, left)
		}
	}
}

func TestUntimeRefusesATimeThatIsCutOff(t *testing.T) {
	for _, n := range times() {
		s := json.Time(n)
		for i := range len(s) {
			expectNoNumber(t, json.Untime, s[:i])
		}
	}
}

func TestUntimeRefusesWhatTimeDoesNotWrite(t *testing.T) {
	for _, s := range []string{
		"", ".", ".000000", ".5", "0", "0.", "0.0", "0.00000", "0.00000x", "0.x000000", "0.0000 0", "0,000000", "0..000000", "0.-00001", "0.+00001", "1.00_000",
		"00.000000", "01.000000", "000.000000", "-0.000000", "-1.000000", "+1.000000", " 1.000000", "1 .000000", "1. 000000", "a", "x1.000000", "\"1.000000\"",
		"1e6", "1.5", "1500000", "1_000.000000", "0x1.000000", "1.00000\xff", "1.00000é", "1.00000٣", "٣.000000", "1.00000１", "Inf", "NaN",
	} {
		expectNoNumber(t, json.Untime, s)
	}
}

func TestUntimeAtTheMostSeconds(t *testing.T) {
	expectNumber(t, json.Untime, "4611686018427.000000", mostSeconds*1000000, "")
	expectNumber(t, json.Untime, "4611686018427.387904x", 1<<62, "x")
	expectNumber(t, json.Untime, "4611686018427.387905", 1<<62+1, "")
	expectNumber(t, json.Untime, "4611686018427.9999990", mostSeconds*1000000+999999, "0")
	for _, s := range []string{
		"4611686018428.000000", "4611686018428.999999", "9223372036854.775807", "9223372036854.775808", "18446744073709.551616", "46116860184270.000000",
		"9223372036854775807.000000", "9223372036854775808.000000", "18446744073709551616.000000", "18446744073709551617.000000",
		"1" + strings.Repeat("0", 400) + ".000000",
	} {
		expectNoNumber(t, json.Untime, s)
	}
}

func TestNumberOfTheExample(t *testing.T) {
	expectNoNumber(t, json.Number, "007")
}

func TestNumber(t *testing.T) {
	for _, n := range append(times(), math.MaxInt64, math.MaxInt64-1, 9000000000000000000) {
		for _, left := range []string{"", " ", ".", ".5", "e5", "E", "-", "-1", "x", ",1", "_1", "\xff", "é", "٣", "\x00", "/", ":"} {
			expectNumber(t, json.Number, fmt.Sprint(n)+left, n, left)
		}
	}
}

func TestNumberRefusesWhatIsNone(t *testing.T) {
	for _, s := range []string{
		"", " ", "a", "-1", "-0", "+1", " 1", "x1", ".5", "-", "\xff1", "é1", "٣", "１", "_1", "\"1\"", "/", ":", "\x001",
		"00", "01", "00x", "007", "000", "0000000000000000000000001", "09223372036854775807",
	} {
		expectNoNumber(t, json.Number, s)
	}
}

func TestNumberAtTheHighest(t *testing.T) {
	expectNumber(t, json.Number, "9223372036854775807", math.MaxInt64, "")
	expectNumber(t, json.Number, "9223372036854775807,8", math.MaxInt64, ",8")
	for _, s := range []string{
		"9223372036854775808", "9223372036854775808 ", "9223372036854775810", "9300000000000000000", "10000000000000000000",
		"18446744073709551615", "18446744073709551616", "18446744073709551617", "18446744073709551616x", "92233720368547758070", "36893488147419103233",
		"1" + strings.Repeat("0", 1000), strings.Repeat("9", 1000) + "x",
	} {
		expectNoNumber(t, json.Number, s)
	}
}

// numberByRule: what Number is to answer, reckoned without a bound.
func numberByRule(s string) (int, string, bool) {
	left := strings.TrimLeft(s, "0123456789")
	digits := strings.TrimSuffix(s, left)
	n, ok := new(big.Int).SetString(digits, 10)
	if !ok || !n.IsInt64() || n.String() != digits {
		return 0, "", false
	}
	return int(n.Int64()), left, true
}

func TestNumberOfAllShortTexts(t *testing.T) {
	for _, ahead := range []string{"", "922337203685477580"} {
		eachText([]string{"0", "1", "7", "8", "9", ".", "-", "x"}, 5, func(s string) {
			s = ahead + s
			if n, left, ok := numberByRule(s); ok {
				expectNumber(t, json.Number, s, n, left)
			} else {
				expectNoNumber(t, json.Number, s)
			}
		})
	}
}
