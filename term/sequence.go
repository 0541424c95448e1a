package term

import (
	"strings"

	"flipbook/api"
	"flipbook/cell"
)

// Bytes that steer.
const (
	backspace = 8
	tab       = 9
	lineFeed  = 10
	lineTab   = 11
	formFeed  = 12
	toBegin   = 13
	shiftOut  = 14
	shiftIn   = 15
)

// Marks of sequences.
const (
	none      = ""
	firstSet  = "("
	secondSet = ")"
	private   = "?" // of modes that the standards leave to each maker
)

func (t *Term) exec(c byte) {
	switch c {
	case backspace:
		t.goTo(t.Cursor.X-1, t.Cursor.Y)
	case tab:
		t.goTo(t.nextTab(), t.Cursor.Y)
	case lineFeed, lineTab, formFeed:
		t.lineOn()
		t.Cursor.Late = false
	case toBegin:
		t.goTo(0, t.Cursor.Y)
	case shiftOut:
		t.Shift = true
	case shiftIn:
		t.Shift = false
	}
}

func (t *Term) esc(a api.Act) {
	switch a.Marks {
	case none:
		t.plainEsc(a.Last)
	case firstSet:
		t.choose(0, a.Last)
	case secondSet:
		t.choose(1, a.Last)
	}
}

func (t *Term) plainEsc(last byte) {
	switch last {
	case '7':
		t.Saved = t.Cursor
	case '8':
		t.Cursor = t.Saved
	case 'D':
		t.lineOn()
		t.Cursor.Late = false
	case 'E':
		t.lineOn()
		t.goTo(0, t.Cursor.Y)
	case 'M':
		t.lineBack()
		t.Cursor.Late = false
	case 'H':
		t.Tabs[t.Cursor.X] = true
	case 'c':
		t.reset()
	}
}

// choose: is a set drawn?
func (t *Term) choose(set int, last byte) {
	switch last {
	case '0':
		t.Draw[set] = true
	case 'B':
		t.Draw[set] = false
	}
}

func (t *Term) csi(a api.Act) {
	switch a.Marks {
	case none:
		t.plainCsi(a)
	case private:
		if a.Last != 'h' && a.Last != 'l' {
			return
		}
		for _, mode := range a.Params {
			t.setMode(mode, a.Last == 'h')
		}
	}
}

func (t *Term) plainCsi(a api.Act) {
	k := param(a.Params, 0)
	n := atLeastOne(k)
	switch a.Last {
	case 'A', 'B', 'e', 'C', 'a', 'D', 'G', '`', 'd', 'H', 'f':
		t.move(a.Last, n, atLeastOne(param(a.Params, 1)))
	case '@', 'P', 'X', 'K', 'J':
		t.edit(a.Last, n, k)
	case 'L', 'M', 'S', 'T':
		t.scroll(a.Last, n)
	case 'm':
		t.Cursor.Style = cell.Change(t.Cursor.Style, a.Params...)
	case 'r':
		t.setLines(n-1, param(a.Params, 1))
	case 'g':
		t.clearTabs(k)
	case 'h', 'l':
		if k == 4 {
			t.Insert = a.Last == 'h'
		}
	case 'n', 'c':
		t.report(a.Last, k)
	}
}

// osc: the beginnings are those that name a window; of others nothing is kept.
func (t *Term) osc(text string) {
	if strings.HasPrefix(text, "0;") || strings.HasPrefix(text, "2;") {
		t.Title = text[2:]
	}
}

// param: 0, if it isn't there.
func param(params []int, i int) int {
	if i >= len(params) {
		return 0
	}
	return params[i]
}

// atLeastOne: a parameter that counts: 0 stands for 1.
func atLeastOne(n int) int { return max(n, 1) }
