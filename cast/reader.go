package cast

import "strings"

// A reader takes parts off the beginning of a text. Once one isn't there it is bad, and has no text left.
type reader struct {
	left string
	good bool
}

// skip: goes past a part that says nothing.
func (in *reader) skip(part string) {
	left, ok := strings.CutPrefix(in.left, part)
	in.goOn(left, ok)
}

// goOn: what is left behind a part, if that was there.
func (in *reader) goOn(left string, ok bool) {
	in.good = in.good && ok
	in.left = ""
	if in.good {
		in.left = left
	}
}

// take: the next part, as one of the calls that read a text's beginning tells it.
func take[V any](in *reader, read func(string) (V, string, bool)) V {
	v, left, ok := read(in.left)
	in.goOn(left, ok)
	return v
}
