package noise_test

import (
	"bytes"
	"testing"

	"mutoscope/api"
	"mutoscope/image"
	"mutoscope/noise"
	"mutoscope/pixel"
)

// The tests of the layers lean on this: one seed is one row, and rows of other seeds are others.
func TestNumbers(t *testing.T) {
	seen := map[uint64]bool{}
	for seed := range uint64(100) {
		a, b := noise.Numbers(seed), noise.Numbers(seed)
		for range 100 {
			x := a()
			if x != b() || seen[x] {
				t.Fatalf("seed %d: %d", seed, x)
			}
			seen[x] = true
		}
	}
}

// Each bit of the numbers is set about as often as not.
func TestBits(t *testing.T) {
	next, set := noise.Numbers(1), [64]int{}
	for range 10000 {
		x := next()
		for k := range set {
			set[k] += int(x >> k & 1)
		}
	}
	for k, n := range set {
		if n < 4500 || n > 5500 {
			t.Errorf("bit %d: %d of 10000", k, n)
		}
	}
}

// Bytes are as many as asked, the same ones each time, in new memory.
func TestBytes(t *testing.T) {
	for _, n := range []int{-1, 0, 1, 7, 5000} {
		a, b := noise.Bytes(n), noise.Bytes(n)
		if len(a) != max(0, n) || !bytes.Equal(a, b) {
			t.Fatalf("Bytes(%d): %d bytes", n, len(a))
		}
		if n > 0 {
			a[0]++
			if bytes.Equal(a, b) || !bytes.Equal(b, noise.Bytes(n)) {
				t.Errorf("Bytes(%d) share memory", n)
			}
		}
	}
}

// Pixels are right, the same ones of one seed, and those at the edges are among them.
func TestPixels(t *testing.T) {
	a, b, seen := noise.Numbers(1), noise.Numbers(1), map[pixel.Pixel]bool{}
	for range 10000 {
		p := noise.Pixel(a)
		if p != noise.Pixel(b) || !p.Right() {
			t.Fatalf("%08x", p)
		}
		seen[p] = true
	}
	for _, p := range []pixel.Pixel{0, 0x000000ff, 0xff0000ff, 0x00ff00ff, 0x0000ffff, 0xffffffff} {
		if !seen[p] {
			t.Errorf("no %08x", p)
		}
	}
	if len(seen) < 3000 {
		t.Errorf("%d of 10000 are others", len(seen))
	}
}

// Images are right, of the sides that are asked, the same ones of one seed, and others of the numbers behind them; of sides that may not be they are nothing.
func TestImages(t *testing.T) {
	a, b := noise.Numbers(2), noise.Numbers(2)
	for _, s := range [][2]int{{8, 1}, {1, 8}, {5, 7}, {256, 256}} {
		m, again := noise.Image(a, s[0], s[1]), noise.Image(b, s[0], s[1])
		if m.W != s[0] || m.H != s[1] || m.Check() != api.OK || !image.Equal(m, again) {
			t.Errorf("%d by %d: %d by %d, Check %d", s[0], s[1], m.W, m.H, m.Check())
		}
		if other := noise.Image(a, s[0], s[1]); image.Equal(m, other) {
			t.Errorf("%d by %d: the same again", s[0], s[1])
		}
		noise.Image(b, s[0], s[1])
	}
	for _, s := range [][2]int{{0, 1}, {1, 0}, {-1, -1}, {4097, 1}} {
		if m := noise.Image(a, s[0], s[1]); m.W != 0 || m.H != 0 || len(m.Pixels) != 0 {
			t.Errorf("%d by %d: %d by %d", s[0], s[1], m.W, m.H)
		}
	}
}
