// Package vary is layer 1: see shared/doc/01-vary.md.
package vary

// Put: numbers' bytes behind others: pieces of seven bits, the lowest first, as few as each has.
func Put(b []byte, l ...uint64) []byte {
	for _, n := range l {
		b = putOne(b, n)
	}
	return b
}

func putOne(b []byte, n uint64) []byte {
	for n >= 128 {
		b = append(b, byte(n%128)+128)
		n /= 128
	}
	return append(b, byte(n))
}

// Take: the number whose bytes these begin with, and how many they are; 0, 0: they begin with none.
func Take(b []byte) (uint64, int) {
	n := uint64(0)
	for i, c := range b {
		// Nine pieces are 63 bits: the tenth one has room for a single bit, and none may follow it.
		if i == 9 && c > 1 {
			return 0, 0
		}
		n |= uint64(c%128) << (7 * i)
		if c >= 128 {
			continue
		}
		// A number has one way to be written only: it has no piece of 0 on top.
		if c == 0 && i > 0 {
			return 0, 0
		}
		return n, i + 1
	}
	return 0, 0
}

// Zig: a number with a sign as one without.
func Zig(n int) uint64 {
	if n >= 0 {
		return 2 * uint64(n)
	}
	// -2n - 1, reckoned so that the least int doesn't leave the numbers on the way.
	return 2*uint64(-(n+1)) + 1
}

// Zag: back.
func Zag(n uint64) int {
	half := int(n / 2)
	if n%2 == 0 {
		return half
	}
	return -half - 1
}

// PutText: a text's length, and its bytes, behind others.
func PutText(b []byte, s string) []byte {
	return append(putOne(b, uint64(len(s))), s...)
}

// A Reader reads numbers and texts; once one isn't there all are nothing.
type Reader struct {
	rest []byte
	bad  bool
}

// Of: a reader at the beginning of bytes.
func Of(b []byte) *Reader {
	// A copy: what becomes of the caller's bytes later mustn't change what is read.
	return &Reader{rest: append([]byte(nil), b...)}
}

// Num: the next number, that must be below a limit (0 or less: below 2^63).
func (r *Reader) Num(limit int) int {
	if limit <= 0 {
		return r.below(1 << 63)
	}
	return r.below(uint64(limit))
}

// Text: the next text, its length ahead, no longer than a limit.
func (r *Reader) Text(most int) string {
	if most < 0 {
		most = 0
	}
	// The limit is reckoned without a sign: one more than the greatest int isn't an int.
	n := r.below(uint64(most) + 1)
	if n > len(r.rest) {
		r.fail()
		return ""
	}
	s := string(r.rest[:n])
	r.rest = r.rest[n:]
	return s
}

// Good: was all there that was asked so far?
func (r *Reader) Good() bool { return !r.bad }

// Done: was it, and is nothing left?
func (r *Reader) Done() bool { return !r.bad && len(r.rest) == 0 }

// The limit is at most 2^63, so that the number is one of an int.
func (r *Reader) below(limit uint64) int {
	n, k := Take(r.rest)
	if k == 0 || n >= limit {
		r.fail()
		return 0
	}
	r.rest = r.rest[k:]
	return int(n)
}

// With nothing left to read, each later call finds nothing by itself.
func (r *Reader) fail() {
	r.rest = nil
	r.bad = true
}
