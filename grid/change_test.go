package grid_test

import (
	"math"
	"testing"

	"flipbook/api"
	"flipbook/grid"
)

func TestPut(t *testing.T) {
	wide := func(s api.Style) api.Cell { return api.Cell{Rune: '한', Style: s} }
	narrow := func(s api.Style) api.Cell { return api.Cell{Rune: 'z', Style: s} }
	for name, x := range map[string]struct {
		was  []api.Cell
		x    int
		c    api.Cell
		want []api.Cell
	}{
		"the first column":                        {row("abcde", plain), 0, narrow(red), joined(row("z", red), row("bcde", plain))},
		"amid the line":                           {row("abcde", red), 2, narrow(plain), joined(row("ab", red), row("z", plain), row("de", red))},
		"the last column":                         {row("abcde", plain), 4, narrow(loud), joined(row("abcd", plain), row("z", loud))},
		"the first half of a wide one":            {row("a中<bc", red), 1, narrow(plain), joined(row("a", red), row("z", plain), row(" bc", red))},
		"the second half of a wide one":           {row("a中<bc", red), 2, narrow(loud), joined(row("a ", red), row("z", loud), row("bc", red))},
		"a blank on a half":                       {row("a中<bc", loud), 2, row(" ", loud)[0], row("a  bc", loud)},
		"a wide one on narrow ones":               {row("abcde", plain), 1, wide(red), joined(row("a", plain), row("한<", red), row("de", plain))},
		"a wide one in the last column but one":   {row("abcde", plain), 3, wide(red), joined(row("abc", plain), row("한<", red))},
		"a wide one in the last column":           {row("abcde", plain), 4, wide(red), joined(row("abcd", plain), row(" ", red))},
		"a wide one in the last column, a half":   {row("abc中<", loud), 4, wide(red), joined(row("abc ", loud), row(" ", red))},
		"a wide one on the halves of one":         {row("a中<bc", loud), 1, wide(red), joined(row("a", loud), row("한<", red), row("bc", loud))},
		"a wide one on the second half of one":    {row("a中<bc", loud), 2, wide(red), joined(row("a ", loud), row("한<", red), row("c", loud))},
		"one whose rest is on the first half":     {row("ab中<c", loud), 1, wide(red), joined(row("a", loud), row("한<", red), row(" c", loud))},
		"a wide one on halves of two":             {row("中<中<c", plain), 1, wide(red), joined(row(" ", plain), row("한<", red), row(" c", plain))},
		"a wide one on halves of two of its own":  {row("中<中<c", red), 1, wide(red), row(" 한< c", red)},
		"a wide one on itself":                    {row("a한<bc", red), 1, wide(red), row("a한<bc", red)},
		"the greatest rune":                       {row("abcde", plain), 0, api.Cell{Rune: 0x10FFFF}, row("\U0010FFFFbcde", plain)},
		"a rest":                                  {row("abcde", plain), 1, api.Cell{Style: red}, row("abcde", plain)},
		"a rest on a second half":                 {row("a中<bc", plain), 2, api.Cell{}, row("a中<bc", plain)},
		"a rune below 0":                          {row("abcde", plain), 1, api.Cell{Rune: -1}, row("abcde", plain)},
		"the least rune":                          {row("abcde", plain), 1, api.Cell{Rune: math.MinInt32}, row("abcde", plain)},
		"a rune that steers":                      {row("abcde", plain), 1, api.Cell{Rune: 31}, row("abcde", plain)},
		"rune 127":                                {row("abcde", plain), 1, api.Cell{Rune: 127}, row("abcde", plain)},
		"half of a pair":                          {row("abcde", plain), 1, api.Cell{Rune: 0xD800}, row("abcde", plain)},
		"a rune past the greatest":                {row("abcde", plain), 1, api.Cell{Rune: 0x110000}, row("abcde", plain)},
		"the greatest of the type":                {row("abcde", plain), 1, api.Cell{Rune: math.MaxInt32}, row("abcde", plain)},
		"a Fore of 9":                             {row("abcde", plain), 1, narrow(api.Style{Fore: 9}), row("abcde", plain)},
		"a Fore below 0":                          {row("abcde", plain), 1, narrow(api.Style{Fore: -1}), row("abcde", plain)},
		"a Back of 9":                             {row("abcde", plain), 1, wide(api.Style{Back: 9}), row("abcde", plain)},
		"the least Back":                          {row("a中<de", plain), 1, wide(api.Style{Back: math.MinInt}), row("a中<de", plain)},
		"the greatest colours":                    {row("a中<de", plain), 1, narrow(api.Style{Fore: 8, Back: 8}), joined(row("a", plain), row("z", api.Style{Fore: 8, Back: 8}), row(" de", plain))},
		"one column behind the line":              {row("abcde", plain), 5, narrow(red), row("abcde", plain)},
		"a wide one one column ahead of the line": {row("abcde", plain), -1, wide(red), row("abcde", plain)},
	} {
		g := of(t, row("中<中<f", red), x.was, row("ghijk", loud))
		g.Put(x.x, 1, x.c)
		expect(t, name, g, row("中<中<f", red), x.want, row("ghijk", loud))
	}
}

// outside: numbers that no place of a side of n has.
func outside(n int) []int { return append(far(), -2, -1, n, n+1) }

// expectNothing: calls for places that aren't there change nothing.
func expectNothing(t *testing.T, what string, call func(g *grid.Grid, x, y, n int)) {
	t.Helper()
	for _, n := range append(far(), 0, 1, 2) {
		g := ofTexts(t, "a中<", "bcd")
		for _, out := range outside(3) {
			call(g, out, 0, n)
			call(g, out, 1, n)
			call(g, out, out, n)
		}
		for _, out := range outside(2) {
			for x := range 3 {
				call(g, x, out, n)
			}
		}
		expectTexts(t, what, g, "a中<", "bcd")
	}
}

func TestNoSuchPlace(t *testing.T) {
	expectNothing(t, "Put", func(g *grid.Grid, x, y, _ int) { g.Put(x, y, api.Cell{Rune: 'z'}) })
	expectNothing(t, "Put of a wide one", func(g *grid.Grid, x, y, _ int) { g.Put(x, y, api.Cell{Rune: '한'}) })
	expectNothing(t, "Open", func(g *grid.Grid, x, y, n int) { g.Open(x, y, n, red) })
	expectNothing(t, "Shut", func(g *grid.Grid, x, y, n int) { g.Shut(x, y, n, red) })
}

func TestClear(t *testing.T) {
	for name, x := range map[string]struct {
		was      []api.Cell
		from, to int
		s        api.Style
		want     []api.Cell
	}{
		"one cell":                            {row("abcde", plain), 1, 2, plain, row("a cde", plain)},
		"some cells, of a style":              {row("abcde", red), 1, 4, loud, joined(row("a", red), row("   ", back), row("e", red))},
		"of a style without Back":             {row("abcde", loud), 3, 5, red, joined(row("abc", loud), row("  ", plain))},
		"all":                                 {row("a中<de", red), 0, 5, loud, row("     ", back)},
		"a beginning one outside":             {row("abcde", red), -1, 2, plain, joined(row("  ", plain), row("cde", red))},
		"an end one outside":                  {row("abcde", red), 3, 6, plain, joined(row("abc", red), row("  ", plain))},
		"both outside":                        {row("ab中<e", red), -1, 6, plain, row("     ", plain)},
		"both far outside":                    {row("ab中<e", red), math.MinInt, math.MaxInt, plain, row("     ", plain)},
		"all ahead of the line":               {row("abcde", red), -3, -1, plain, row("abcde", red)},
		"up to the line":                      {row("abcde", red), -3, 0, plain, row("abcde", red)},
		"behind the line":                     {row("abcde", red), 5, 7, plain, row("abcde", red)},
		"far behind the line":                 {row("abcde", red), math.MaxInt - 1, math.MaxInt, plain, row("abcde", red)},
		"far ahead of the line":               {row("abcde", red), math.MinInt, math.MinInt + 1, plain, row("abcde", red)},
		"an end at the beginning":             {row("ab中<e", red), 3, 3, plain, row("ab中<e", red)},
		"an end ahead of the beginning":       {row("ab中<e", red), 4, 3, plain, row("ab中<e", red)},
		"an end far ahead":                    {row("ab中<e", red), math.MaxInt, math.MinInt, plain, row("ab中<e", red)},
		"the border amid a wide one":          {row("a中<de", red), 2, 4, loud, joined(row("a ", red), row("  ", back), row("e", red))},
		"the end's border amid one":           {row("abc中<", red), 1, 4, loud, joined(row("a", red), row("   ", back), row(" ", red))},
		"both borders amid wide ones":         {row("中<a中<", red), 1, 4, loud, joined(row(" ", red), row("   ", back), row(" ", red))},
		"the second half alone":               {row("a中<de", loud), 2, 3, plain, joined(row("a ", loud), row(" ", plain), row("de", loud))},
		"the first half alone":                {row("a中<de", loud), 1, 2, plain, joined(row("a", loud), row(" ", plain), row(" de", loud))},
		"a wide one, with both of its halves": {row("a中<한<", plain), 1, 3, loud, joined(row("a", plain), row("  ", back), row("한<", plain))},
	} {
		g := of(t, row("中<中<f", red), x.was, row("ghijk", loud))
		g.Clear(1, x.from, x.to, x.s)
		expect(t, name, g, row("中<中<f", red), x.want, row("ghijk", loud))
	}
	g := ofTexts(t, "a中<", "bcd")
	for _, y := range outside(2) {
		g.Clear(y, 0, 3, red)
		g.Clear(y, math.MinInt, math.MaxInt, red)
		g.Clear(y, y, y, red)
	}
	expectTexts(t, "lines that aren't there", g, "a中<", "bcd")
}

// A step at a place of a line, and the line behind it.
type step struct {
	was  []api.Cell
	x, n int
	s    api.Style
	want []api.Cell
}

func expectSteps(t *testing.T, steps map[string]step, call func(g *grid.Grid, x, y, n int, s api.Style)) {
	t.Helper()
	for name, x := range steps {
		g := of(t, row("中<中<f", red), x.was, row("ghijk", loud))
		call(g, x.x, 1, x.n, x.s)
		expect(t, name, g, row("中<中<f", red), x.want, row("ghijk", loud))
	}
}

func TestOpen(t *testing.T) {
	all := row("abcde", red)
	expectSteps(t, map[string]step{
		"one at the first column":        {all, 0, 1, loud, joined(row(" ", back), row("abcd", red))},
		"two amid the line":              {all, 2, 2, plain, joined(row("ab", red), row("  ", plain), row("c", red))},
		"all but one":                    {all, 0, 4, plain, joined(row("    ", plain), row("a", red))},
		"as many as there is room for":   {all, 2, 3, loud, joined(row("ab", red), row("   ", back))},
		"one more than that":             {all, 2, 4, loud, joined(row("ab", red), row("   ", back))},
		"all of the line":                {all, 0, 5, loud, row("     ", back)},
		"the greatest int":               {all, 0, math.MaxInt, loud, row("     ", back)},
		"one at the last column":         {all, 4, 1, plain, joined(row("abcd", red), row(" ", plain))},
		"more at the last column":        {all, 4, 7, plain, joined(row("abcd", red), row(" ", plain))},
		"the greatest int at the last":   {all, 4, math.MaxInt, plain, joined(row("abcd", red), row(" ", plain))},
		"none":                           {all, 2, 0, plain, all},
		"none at the last column":        {all, 4, 0, plain, all},
		"below 0":                        {all, 0, -1, plain, all},
		"the least int":                  {all, 2, math.MinInt, plain, all},
		"ahead of a wide one":            {row("a中<de", red), 1, 1, loud, joined(row("a", red), row(" ", back), row("中<d", red))},
		"amid a wide one":                {row("a中<de", red), 2, 1, loud, joined(row("a ", red), row(" ", back), row(" d", red))},
		"none amid a wide one":           {row("a中<de", red), 2, 0, loud, row("a中<de", red)},
		"behind a wide one":              {row("a中<de", red), 3, 1, loud, joined(row("a中<", red), row(" ", back), row("d", red))},
		"a wide one goes on":             {row("中<cde", red), 0, 2, plain, joined(row("  ", plain), row("中<c", red))},
		"a wide one's rest goes out":     {row("abc中<", red), 1, 1, loud, joined(row("a", red), row(" ", back), row("bc ", red))},
		"a wide one goes out":            {row("abc中<", red), 1, 2, loud, joined(row("a", red), row("  ", back), row("bc", red))},
		"amid one, and another goes out": {row("a中<한<", red), 2, 1, loud, joined(row("a ", red), row(" ", back), row("  ", red))},
		"amid the one at the end":        {row("abc中<", red), 4, 1, loud, joined(row("abc ", red), row(" ", back))},
	}, (*grid.Grid).Open)
}

func TestShut(t *testing.T) {
	all := row("abcde", red)
	expectSteps(t, map[string]step{
		"one at the first column":       {all, 0, 1, loud, joined(row("bcde", red), row(" ", back))},
		"two amid the line":             {all, 1, 2, plain, joined(row("ade", red), row("  ", plain))},
		"all but one":                   {all, 0, 4, plain, joined(row("e", red), row("    ", plain))},
		"as many as there are":          {all, 2, 3, loud, joined(row("ab", red), row("   ", back))},
		"one more than that":            {all, 2, 4, loud, joined(row("ab", red), row("   ", back))},
		"all of the line":               {all, 0, 5, loud, row("     ", back)},
		"the greatest int":              {all, 0, math.MaxInt, loud, row("     ", back)},
		"one at the last column":        {all, 4, 1, plain, joined(row("abcd", red), row(" ", plain))},
		"more at the last column":       {all, 4, 7, plain, joined(row("abcd", red), row(" ", plain))},
		"the greatest int at the last":  {all, 4, math.MaxInt, plain, joined(row("abcd", red), row(" ", plain))},
		"none":                          {all, 2, 0, plain, all},
		"none at the last column":       {all, 4, 0, plain, all},
		"below 0":                       {all, 0, -1, plain, all},
		"the least int":                 {all, 2, math.MinInt, plain, all},
		"ahead of a wide one":           {row("a中<de", red), 0, 1, loud, joined(row("中<de", red), row(" ", back))},
		"a wide one, with both halves":  {row("a中<de", red), 1, 2, loud, joined(row("ade", red), row("  ", back))},
		"the first half of one":         {row("a中<de", red), 1, 1, loud, joined(row("a de", red), row(" ", back))},
		"the second half of one":        {row("a中<de", red), 2, 1, loud, joined(row("a de", red), row(" ", back))},
		"none amid one":                 {row("a中<de", red), 2, 0, loud, row("a中<de", red)},
		"halves of two, unlike":         {joined(row("中<", red), row("한<e", loud)), 1, 2, plain, joined(row(" ", red), row(" e", loud), row("  ", plain))},
		"halves of two, that make one":  {row("中<한<e", red), 1, 2, plain, joined(row("中<e", red), row("  ", plain))},
		"the second half of one at end": {row("abc中<", red), 4, 1, loud, joined(row("abc ", red), row(" ", back))},
		"a wide one goes back":          {row("abc中<", red), 0, 3, loud, joined(row("中<", red), row("   ", back))},
	}, (*grid.Grid).Shut)
}
