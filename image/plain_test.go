package image_test

import (
	"slices"
	"testing"

	"mutoscope/image"
	"mutoscope/pixel"
	"mutoscope/rect"
)

// plain is the pixels of an image by the chapter's words: a map from each place that there is to its colour.
type plain struct {
	w, h   int
	colour map[place]pixel.Pixel
}

type place struct{ x, y int }

// plainOf is m's pixels, read line by line, from above, each line from left to right.
func plainOf(m image.Image) plain {
	a := plain{m.W, m.H, map[place]pixel.Pixel{}}
	x, y := 0, 0
	for _, p := range m.Pixels {
		a.colour[place{x, y}] = p
		x++
		if x == m.W {
			x, y = 0, y+1
		}
	}
	return a
}

func (a plain) set(x, y int, p pixel.Pixel) bool {
	if _, there := a.colour[place{x, y}]; !there || !p.Right() {
		return false
	}
	a.colour[place{x, y}] = p
	return true
}

// fill asks each pixel if it lies in one of l.
func (a plain) fill(p pixel.Pixel, l []rect.Rect) int {
	n := 0
	for at := range a.colour {
		if slices.ContainsFunc(l, func(r rect.Rect) bool { return r.X0 <= at.x && at.x < r.X1 && r.Y0 <= at.y && at.y < r.Y1 }) {
			a.colour[at] = p
			n++
		}
	}
	return n
}

// bytes is what the sum of an image is the sum of, by divisions.
func (a plain) bytes() []byte {
	l := []int{a.w, a.h}
	for y := range a.h {
		for x := range a.w {
			l = append(l, int(a.colour[place{x, y}]))
		}
	}
	var b []byte
	for _, n := range l {
		for range 4 {
			b = append(b, byte(n%256))
			n /= 256
		}
	}
	return b
}

// same fails if m isn't right, or isn't a.
func same(t *testing.T, m image.Image, a plain) {
	t.Helper()
	if m.Check() != 0 || m.W != a.w || m.H != a.h || len(m.Pixels) != len(a.colour) {
		t.Fatalf("%d by %d, %d pixels: Check %d", m.W, m.H, len(m.Pixels), m.Check())
	}
	for at, p := range a.colour {
		if m.At(at.x, at.y) != p {
			t.Fatalf("%d by %d: At(%d, %d): %08x, not %08x", m.W, m.H, at.x, at.y, m.At(at.x, at.y), p)
		}
	}
}

// wrongPixels is such as have a colour above their A, each in another way.
func wrongPixels() []pixel.Pixel {
	return []pixel.Pixel{0x01000000, 0x00010000, 0x00000100, 0x02000001, 0x00020001, 0x00000201, 0xff0000fe, 0x00ff00fe, 0x0000fffe, 0xffffff00, 0xffffffff - 1}
}

// roomy is a copy of m whose Pixels lie amid others, in one memory, and that memory.
func roomy(m image.Image) (image.Image, []pixel.Pixel) {
	all := make([]pixel.Pixel, len(m.Pixels)+20)
	for k := range all {
		all[k] = pixel.Pixel(0x01020304 + k)
	}
	m.Pixels = append(all[10:10], m.Pixels...)
	return m, all
}
