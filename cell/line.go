package cell

import (
	"unicode"

	"flipbook/api"
	"flipbook/vary"
)

// A run is cells side by side that are the same.
type run struct {
	count int
	cell  api.Cell
}

// PutLine: a line's bytes behind others: of cells side by side that are the same one, and how many.
func PutLine(b []byte, l []api.Cell) []byte {
	for _, x := range runsOf(l) {
		b = vary.Put(b, uint64(x.count), uint64(x.cell.Rune))
		b = PutStyle(b, x.cell.Style)
	}
	return b
}

// TakeLine: the next line of so many cells; false: there is none.
func TakeLine(r *vary.Reader, w int) ([]api.Cell, bool) {
	if w < 0 {
		return nil, false
	}
	runs, ok := takeRuns(r, w)
	// Two cells of a run tell as much as all do whether the line is whole. Only a line that is there is laid out: a few bytes may tell of more cells than there is room for.
	if !ok || !Whole(spread(runs, 2)) {
		return nil, false
	}
	return spread(runs, w), true
}

// runsOf: a line's runs, each as long as it goes.
func runsOf(l []api.Cell) []run {
	var out []run
	for _, c := range l {
		if goesOn(out, c) {
			out[len(out)-1].count++
			continue
		}
		out = append(out, run{1, c})
	}
	return out
}

// goesOn: is the cell the same as those of the last run?
func goesOn(runs []run, c api.Cell) bool {
	return len(runs) > 0 && runs[len(runs)-1].cell == c
}

// takeRuns: the next runs, of so many cells in all, as runsOf has them; false: there are none.
func takeRuns(r *vary.Reader, w int) ([]run, bool) {
	var out []run
	for left := w; left > 0; {
		x, ok := takeRun(r)
		if !ok || x.count > left || goesOn(out, x.cell) {
			return nil, false
		}
		out = append(out, x)
		left -= x.count
	}
	return out, true
}

func takeRun(r *vary.Reader) (run, bool) {
	count := r.Num(0)
	letter := r.Num(unicode.MaxRune + 1)
	s, ok := TakeStyle(r)
	if !ok || count == 0 {
		return run{}, false
	}
	return run{count, api.Cell{Rune: rune(letter), Style: s}}, true
}

// spread: the runs' cells, at most so many of each run.
func spread(runs []run, most int) []api.Cell {
	var out []api.Cell
	for _, x := range runs {
		for range min(x.count, most) {
			out = append(out, x.cell)
		}
	}
	return out
}
