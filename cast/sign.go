package cast

import (
	"strings"

	"flipbook/api"
)

// signs: those of the kinds of events.
var signs = [...]string{api.Out: "o", api.In: "i", api.Size: "r", api.Mark: "m"}

// sign: that of a kind of events; no text, which Import takes for no sign, of a number that is no kind's.
func sign(kind int) string {
	if kind < 0 || kind >= len(signs) {
		return ""
	}
	return signs[kind]
}

// kind: the one whose sign a text begins with, and what is behind it; false: it begins with none.
func kind(s string) (int, string, bool) {
	for k, sign := range signs {
		if left, ok := strings.CutPrefix(s, sign); ok {
			return k, left, true
		}
	}
	return 0, "", false
}
