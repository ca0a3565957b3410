package raster_test

import (
	"math"
	"slices"
	"testing"

	"mutoscope/api"
	"mutoscope/flat"
	"mutoscope/image"
	"mutoscope/pixel"
	"mutoscope/raster"
	"mutoscope/rect"
	"mutoscope/scene"
)

const one = api.One

// plainPixel is the colours of l at a pixel by the chapters' words: on nothing lies the first one, on that the next one, and so on.
func plainPixel(l []flat.Item, x, y int) pixel.Pixel {
	var d pixel.Pixel
	for _, i := range l {
		d = plainOver(i.At(x, y), d)
	}
	return d
}

// plainOver is s over d: each part is s's, and d's by 255 less s's A, added.
func plainOver(s, d pixel.Pixel) pixel.Pixel {
	p, left := 0, 255-int(s)%256
	for k := 24; k >= 0; k -= 8 {
		p = p<<8 + int(s)>>k%256 + int(math.Round(float64(int(d)>>k%256*left)/255))
	}
	return pixel.Pixel(p)
}

// pictured is what Pix tells of s, after each of its pixels was held against the chapter's words.
func pictured(t *testing.T, s *scene.Scene) image.Image {
	t.Helper()
	m, l := raster.Pix(s), flat.List(s)
	if w, h, _ := s.Size(); m.W != w || m.H != h || m.Check() != api.OK {
		t.Fatalf("Pix of %d by %d: %d by %d, Check %d", w, h, m.W, m.H, m.Check())
	}
	for y := range m.H {
		for x := range m.W {
			want := plainPixel(l, x, y)
			if p := raster.Pixel(l, x, y); p != want || m.At(x, y) != want {
				t.Fatalf("%v: at %d, %d Pixel %08x, Pix %08x, not %08x", l, x, y, p, m.At(x, y), want)
			}
		}
	}
	return m
}

// painted is what Paint tells, after each of m's pixels was held against the chapter's words.
func painted(t *testing.T, m image.Image, l []flat.Item, r ...rect.Rect) int {
	t.Helper()
	was, n := m.Copy(), raster.Paint(m, l, r...)
	want := 0
	for y := range m.H {
		for x := range m.W {
			p := was.At(x, y)
			if lies(x, y, r) {
				p = plainPixel(l, x, y)
				want++
			}
			if m.At(x, y) != p {
				t.Fatalf("%d by %d, Paint of %v: at %d, %d %08x, not %08x", m.W, m.H, r, x, y, m.At(x, y), p)
			}
		}
	}
	if n != want || m.W != was.W || m.H != was.H || len(m.Pixels) != len(was.Pixels) {
		t.Fatalf("%d by %d, Paint of %v: %d, not %d", m.W, m.H, r, n, want)
	}
	return n
}

// lies is whether a pixel lies in one of l.
func lies(x, y int, l []rect.Rect) bool {
	return slices.ContainsFunc(l, func(r rect.Rect) bool { return r.X0 <= x && x < r.X1 && r.Y0 <= y && y < r.Y1 })
}

func do(t *testing.T, s *scene.Scene, l ...scene.Op) {
	t.Helper()
	if at, e := s.Apply(l...); at != len(l) || e != api.OK {
		t.Fatalf("Apply %v: %d, %d", l, at, e)
	}
}
