package noise_test

import (
	"bytes"
	"testing"

	"mutoscope/noise"
	"mutoscope/pixel"
)

// The tests of the layers lean on this: one seed is one row, and rows of other seeds are others.
func TestNumbers(t *testing.T) {
	seen := map[uint64]bool{}
	for seed := range uint64(100) {
		a, b := noise.Numbers(seed), noise.Numbers(seed)
		for range 100 {
			x := a()
			if x != b() || seen[x] {
				t.Fatalf("seed %d: %d", seed, x)
			}
			seen[x] = true
		}
	}
}

// Each bit of the numbers is set about as often as not.
func TestBits(t *testing.T) {
	next, set := noise.Numbers(1), [64]int{}
	for range 10000 {
		x := next()
		for k := range set {
			set[k] += int(x >> k & 1)
		}
	}
	for k, n := range set {
		if n < 4500 || n > 5500 {
			t.Errorf("bit %d: %d of 10000", k, n)
		}
	}
}

// Bytes are as many as asked, the same ones each time, in new memory.
func TestBytes(t *testing.T) {
	for _, n := range []int{-1, 0, 1, 7, 5000} {
		a, b := noise.Bytes(n), noise.Bytes(n)
		if len(a) != max(0, n) || !bytes.Equal(a, b) {
			t.Fatalf("Bytes(%d): %d bytes", n, len(a))
		}
		if n > 0 {
			a[0]++
			if bytes.Equal(a, b) || !bytes.Equal(b, noise.Bytes(n)) {
				t.Errorf("Bytes(%d) share memory", n)
			}
		}
	}
}

// Pixels are right, the same ones of one seed, and those at the edges are among them.
func TestPixels(t *testing.T) {
	a, b, seen := noise.Numbers(1), noise.Numbers(1), map[pixel.Pixel]bool{}
	for range 10000 {
		p := noise.Pixel(a)
		if p != noise.Pixel(b) || !p.Right() {
			t.Fatalf("%08x", p)
		}
		seen[p] = true
	}
	for _, p := range []pixel.Pixel{0, 0x000000ff, 0xff0000ff, 0x00ff00ff, 0x0000ffff, 0xffffffff} {
		if !seen[p] {
			t.Errorf("no %08x", p)
		}
	}
	if len(seen) < 3000 {
		t.Errorf("%d of 10000 are others", len(seen))
	}
}
