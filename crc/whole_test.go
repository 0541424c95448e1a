package crc_test

import (
	"bytes"
	"encoding/binary"
	"testing"

	"flipbook/crc"
)

// headOf: how many bytes the length of a frame has.
func headOf(b []byte) int { return len(binary.AppendUvarint(nil, uint64(len(b)))) }

func TestFramesComeBackWhole(t *testing.T) {
	for _, a := range contents() {
		for _, b := range contents() {
			both := crc.Frame(crc.Frame(nil, a), b)
			first, n := crc.Next(both)
			second, m := crc.Next(both[n:])
			if !bytes.Equal(first, a) || !bytes.Equal(second, b) || n+m != len(both) {
				t.Fatalf("%d and %d bytes: back as %d and %d", len(a), len(b), len(first), len(second))
			}
		}
	}
}

func TestFrameCutOffIsNone(t *testing.T) {
	for _, b := range contents() {
		frame := crc.Frame(nil, b)
		for n := range frame {
			// Of long ones the places around each part's ends are enough: each place costs a sum.
			if len(frame) > 1000 && n > 10 && n < len(frame)-10 {
				continue
			}
			expectNone(t, "cut off", frame[:n])
		}
	}
}

// What is behind the end of a slice, in its spare room, isn't there.
func TestFrameCutOffInTheSpareRoomIsNone(t *testing.T) {
	frame := crc.Frame(make([]byte, 0, 64), []byte("abcdef"))
	for n := range frame {
		expectNone(t, "cut off", frame[:n:cap(frame)])
	}
}

func TestFramesAheadOfOneCutOff(t *testing.T) {
	for _, b := range contents()[:14] {
		ahead := crc.Frame(crc.Frame(nil, []byte("ab")), b)
		all := crc.Frame(ahead, b)
		for n := len(ahead); n < len(all); n++ {
			if l, k := crc.Split(all[:n]); len(l) != 2 || k != len(ahead) || !bytes.Equal(l[1], b) {
				t.Fatalf("%d of %d bytes: %d frames of %d", n, len(all), len(l), k)
			}
		}
	}
}

func TestSumOffByOneBit(t *testing.T) {
	for _, b := range contents() {
		frame := crc.Frame(nil, b)
		for bit := range 32 {
			turned := bytes.Clone(frame)
			turned[len(frame)-4+bit/8] ^= 1 << (bit % 8)
			expectNone(t, "a bit of the sum turned", turned)
		}
	}
}

func TestEachByteTurned(t *testing.T) {
	for _, b := range contents()[:16] {
		frame := crc.Frame(nil, b)
		for at := headOf(b); at < len(frame); at++ {
			for x := 1; x < 256; x++ {
				turned := bytes.Clone(frame)
				turned[at] ^= byte(x)
				expectNone(t, "a byte turned", turned)
			}
		}
	}
}

// Of two bytes side by side, all ways to turn them.
func TestTwoBytesTurned(t *testing.T) {
	for _, b := range [][]byte{nil, {0}, []byte("ab"), some(5)} {
		frame := crc.Frame(nil, b)
		for at := headOf(b); at+2 <= len(frame); at++ {
			for x := 1; x < 1<<16; x++ {
				turned := bytes.Clone(frame)
				turned[at] ^= byte(x)
				turned[at+1] ^= byte(x >> 8)
				expectNone(t, "two bytes turned", turned)
			}
		}
	}
}

// ways: how four bytes side by side, or the first ones of them, are turned: each bit, each run of bits, the sum's pattern, and others.
func ways() []uint32 {
	l := []uint32{0xEDB88320, 0x04C11DB7, 0xDB710641, 0x01DB7106, 0xFFFFFFFF, 0x00FFFFFF, 0x80000001, 0x01000001}
	for from := range 32 {
		for bits := 1; from+bits <= 32; bits++ {
			l = append(l, uint32((uint64(1)<<bits-1)<<from))
		}
	}
	x := uint32(1)
	for range 500 {
		x = x*1664525 + 1013904223
		l = append(l, x, x>>8)
	}
	return l
}

func TestFourBytesTurned(t *testing.T) {
	for _, b := range contents()[:14] {
		frame := crc.Frame(nil, b)
		for at := headOf(b); at+4 <= len(frame); at++ {
			if len(frame) > 100 && at > 6 && at < len(frame)-10 {
				continue
			}
			for _, way := range ways() {
				turned := bytes.Clone(frame)
				old := binary.LittleEndian.Uint32(turned[at:])
				binary.LittleEndian.PutUint32(turned[at:], old^way)
				expectNone(t, "four bytes turned", turned)
			}
		}
	}
}

// The frame ahead of one that was turned is there still, and none behind it.
func TestSplitEndsAtATurnedFrame(t *testing.T) {
	one, two := crc.Frame(nil, []byte("ab")), crc.Frame(nil, []byte("cdef"))
	all := append(append(bytes.Clone(one), two...), one...)
	for at := len(one) + 1; at+4 <= len(one)+len(two); at++ {
		for _, way := range ways() {
			turned := bytes.Clone(all)
			old := binary.LittleEndian.Uint32(turned[at:])
			binary.LittleEndian.PutUint32(turned[at:], old^way)
			if l, n := crc.Split(turned); n != len(one) || len(l) != 1 || string(l[0]) != "ab" {
				t.Fatalf("%08X at %d: %q, %d", way, at, l, n)
			}
		}
	}
}
