package crc_test

import (
	"bytes"
	"testing"

	"mutoscope/crc"
	"mutoscope/noise"
)

// defined is the sum as the chapter's words define it, bit by bit.
func defined(b []byte) uint32 {
	return further(0, b)
}

// further is the sum of bytes whose sum is given, and b behind them, by the same words.
func further(sum uint32, b []byte) uint32 {
	r := sum ^ 0xffffffff
	for _, x := range b {
		r ^= uint32(x)
		for range 8 {
			if r%2 == 1 {
				r = r/2 ^ 0xedb88320
			} else {
				r = r / 2
			}
		}
	}
	return r ^ 0xffffffff
}

// P1.1: the chapter's examples.
func TestExamples(t *testing.T) {
	if x := crc.Sum([]byte("123456789")); x != 0xcbf43926 {
		t.Errorf("Sum of 123456789: %08x", x)
	}
	none := map[string]uint32{
		"no part":              crc.Sum(),
		"a nil part":           crc.Sum(nil),
		"a part without bytes": crc.Sum([]byte{}),
		"three of these":       crc.Sum(nil, []byte{}, nil),
	}
	for what, x := range none {
		if x != 0 {
			t.Errorf("Sum of %s: %08x", what, x)
		}
	}
}

// P1.1: each byte, at each place of a row, counts as the chapter defines it.
func TestEachByteAtEachPlace(t *testing.T) {
	for size := 1; size <= 9; size++ {
		for place := range size {
			for x := range 256 {
				b := make([]byte, size)
				b[place] = byte(x)
				if got, want := crc.Sum(b), defined(b); got != want {
					t.Fatalf("Sum of % x: %08x, not %08x", b, got, want)
				}
			}
		}
	}
}

// P1.1: rows of any length, ordinary bytes in them, a long one among them.
func TestLengths(t *testing.T) {
	lengths := []int{1<<16 - 1, 1 << 16, 1<<20 + 3}
	for n := range 300 {
		lengths = append(lengths, n)
	}
	for _, n := range lengths {
		b := noise.Bytes(n)
		if got, want := crc.Sum(b), defined(b); got != want {
			t.Errorf("Sum of %d bytes: %08x, not %08x", n, got, want)
		}
	}
}

// P1.1: Next, byte by byte, tells each beginning's sum.
func TestNextByteByByte(t *testing.T) {
	b := append([]byte("123456789"), noise.Bytes(200)...)
	sum := crc.Sum()
	for i, x := range b {
		sum = crc.Next(sum, x)
		if want := defined(b[:i+1]); sum != want {
			t.Fatalf("Next, %d bytes: %08x, not %08x", i+1, sum, want)
		}
		if want := crc.Sum(b[:i+1]); sum != want {
			t.Fatalf("Next, %d bytes: %08x, Sum has %08x", i+1, sum, want)
		}
	}
}

// P1.1: Next of any sum, those at the ends among them, and of any byte.
func TestNextOfAnySum(t *testing.T) {
	sums := []uint32{0, 1, 0x7fffffff, 0x80000000, 0xfffffffe, 0xffffffff, 0xedb88320, 0x12477cdf}
	for i := range 32 {
		sums = append(sums, 1<<i, ^uint32(1<<i))
	}
	for _, sum := range sums {
		for x := range 256 {
			got, want := crc.Next(sum, byte(x)), further(sum, []byte{byte(x)})
			if got != want {
				t.Fatalf("Next(%08x, %02x): %08x, not %08x", sum, x, got, want)
			}
		}
	}
}

// P1.2: nine bytes, parted in each of the 256 ways, with parts without bytes between, and without.
func TestPartedInEachWay(t *testing.T) {
	b := []byte("123456789")
	for cuts := range 1 << (len(b) - 1) {
		var parts, spread [][]byte
		from := 0
		for to := 1; to <= len(b); to++ {
			if to == len(b) || cuts>>(to-1)&1 == 1 {
				parts = append(parts, b[from:to])
				spread = append(spread, nil, b[from:to], []byte{})
				from = to
			}
		}
		if x := crc.Sum(parts...); x != 0xcbf43926 {
			t.Fatalf("Sum of %q: %08x", parts, x)
		}
		if x := crc.Sum(spread...); x != 0xcbf43926 {
			t.Fatalf("Sum of %q: %08x", spread, x)
		}
	}
}

// P1.2: a long row, parted at each place, and into parts of each size.
func TestPartsOfEachSize(t *testing.T) {
	b := noise.Bytes(1000)
	want := defined(b)
	for at := range len(b) + 1 {
		if x := crc.Sum(b[:at], b[at:]); x != want {
			t.Fatalf("Sum, parted at %d: %08x, not %08x", at, x, want)
		}
	}
	for size := 1; size <= len(b); size++ {
		var parts [][]byte
		for l := b; len(l) > 0; l = l[min(size, len(l)):] {
			parts = append(parts, l[:min(size, len(l))])
		}
		if x := crc.Sum(parts...); x != want {
			t.Fatalf("Sum, parts of %d: %08x, not %08x", size, x, want)
		}
	}
}

// turned is b with the bits of pattern turned, from the bit at on: bits are counted as the sum comes to them, each byte's lowest one first.
func turned(b []byte, pattern uint32, at int) []byte {
	l := bytes.Clone(b)
	for i := range 32 {
		if pattern>>i&1 == 1 {
			l[(at+i)/8] ^= 1 << ((at + i) % 8)
		}
	}
	return l
}

// unlike fails if some row that differs from b in pattern has b's sum.
func unlike(t *testing.T, b []byte, pattern uint32, width int) {
	t.Helper()
	sum := crc.Sum(b)
	for at := 0; at+width <= 8*len(b); at++ {
		if l := turned(b, pattern, at); crc.Sum(l) == sum {
			t.Fatalf("% x and % x: both %08x", b, l, sum)
		}
	}
}

// P1.2: each difference of up to ten bits in a row, wherever it stands.
func TestUnlikeInFewBits(t *testing.T) {
	for _, b := range [][]byte{make([]byte, 7), []byte("1234567"), noise.Bytes(7)} {
		for pattern := uint32(1); pattern < 1<<10; pattern++ {
			width := 0
			for pattern>>width != 0 {
				width++
			}
			unlike(t, b, pattern, width)
		}
	}
}

// P1.2: differences of each number of bits up to 32, all of them turned, just the outer ones, or any.
func TestUnlikeInUpTo32Bits(t *testing.T) {
	r := uint32(1)
	for width := 1; width <= 32; width++ {
		ends := uint32(1) | 1<<(width-1)
		full := uint32(0xffffffff) >> (32 - width)
		patterns := []uint32{ends, full}
		for range 50 {
			r = r*1664525 + 1013904223
			patterns = append(patterns, ends|full&(r^r>>16))
		}
		for _, b := range [][]byte{make([]byte, 4), []byte("123456789"), noise.Bytes(21)} {
			for _, pattern := range patterns {
				unlike(t, b, pattern, width)
			}
		}
	}
}

// P1.2: the numbers that the sum is made with, as differences: a sum that lost a bit would be the same.
func TestUnlikeInMakingNumbers(t *testing.T) {
	for _, pattern := range []uint32{0xedb88320, 0xdb710641, 0x04c11db7, 0x82608edb, 0xffffffff, 0x80000001} {
		for _, b := range [][]byte{make([]byte, 4), make([]byte, 12), noise.Bytes(12)} {
			unlike(t, b, pattern, 32)
		}
	}
}

// The rule of memory: what is handed in isn't changed, its spare room neither, and isn't kept.
func TestPartsStay(t *testing.T) {
	for n := range 40 {
		room := noise.Bytes(n + 16)
		was := bytes.Clone(room)
		part := room[:n]
		parts := [][]byte{part, part, nil}[:2]
		sum := crc.Sum(parts...)
		if !bytes.Equal(room, was) || parts[:3][2] != nil || len(parts[0]) != n || len(parts[1]) != n {
			t.Fatalf("Sum of %d bytes changed its parts", n)
		}
		if want := further(defined(was[:n]), was[:n]); sum != want {
			t.Fatalf("Sum of %d bytes twice: %08x, not %08x", n, sum, want)
		}
		clear(room)
		if x := crc.Sum(was[:n], was[:n]); x != sum {
			t.Fatalf("Sum of %d bytes once more: %08x, not %08x", n, x, sum)
		}
	}
}
