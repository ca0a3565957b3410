package region_test

import (
	"slices"
	"testing"

	"mutoscope/rect"
	"mutoscope/region"
)

// The plain model's pixels are those of a small square, from low to high, on both ways.
const (
	low  = -3
	high = 5
)

// place is a pixel of the plain model.
type place struct{ x, y int }

// plain is what a region is by the chapter's words: a set of pixels within a frame.
type plain struct {
	frame rect.Rect
	has   map[place]bool
}

func plainOf(frame rect.Rect) plain {
	return plain{frame, map[place]bool{}}
}

// lies tells if the pixel is one of p's, by layer 6's words.
func lies(at place, p rect.Rect) bool {
	return p.X0 <= at.x && at.x < p.X1 && p.Y0 <= at.y && at.y < p.Y1
}

// square is all pixels from low to high.
func square() []place {
	var l []place
	for y := low; y < high; y++ {
		for x := low; x < high; x++ {
			l = append(l, place{x, y})
		}
	}
	return l
}

func (m plain) add(l ...rect.Rect) {
	for _, at := range square() {
		for _, p := range l {
			if lies(at, p) && lies(at, m.frame) {
				m.has[at] = true
			}
		}
	}
}

func (m plain) less(l ...rect.Rect) {
	for _, at := range square() {
		for _, p := range l {
			if lies(at, p) {
				delete(m.has, at)
			}
		}
	}
}

func (m plain) meets(p rect.Rect) bool {
	for at := range m.has {
		if lies(at, p) {
			return true
		}
	}
	return false
}

// bound is the least rectangle with all pixels.
func (m plain) bound() rect.Rect {
	if len(m.has) == 0 {
		return rect.Rect{}
	}
	b := rect.Rect{X0: high, Y0: high, X1: low, Y1: low}
	for at := range m.has {
		b = rect.Rect{X0: min(b.X0, at.x), Y0: min(b.Y0, at.y), X1: max(b.X1, at.x+1), Y1: max(b.Y1, at.y+1)}
	}
	return b
}

// same fails if r doesn't tell just the pixels of m; the pixels and rectangles beyond m's square, too, are asked.
func same(t *testing.T, r *region.Region, m plain) {
	t.Helper()
	for y := low - 2; y < high+2; y++ {
		for x := low - 2; x < high+2; x++ {
			if r.Has(x, y) != m.has[place{x, y}] {
				t.Fatalf("Has(%d, %d): %v; %v", x, y, r.Has(x, y), m)
			}
		}
	}
	if r.Area() != len(m.has) || r.Bound() != m.bound() {
		t.Fatalf("Area %d, Bound %v; %v", r.Area(), r.Bound(), m)
	}
	each(t, r, m)
}

// each fails if the rectangles aren't m's pixels, each in one of them, or aren't in order.
func each(t *testing.T, r *region.Region, m plain) {
	t.Helper()
	l := slices.Collect(r.Each())
	seen := map[place]bool{}
	for k, p := range l {
		if p.X0 >= p.X1 || p.Y0 >= p.Y1 {
			t.Fatalf("Each: an empty one in %v", l)
		}
		if k > 0 && (l[k-1].Y0 > p.Y0 || l[k-1].Y0 == p.Y0 && l[k-1].X0 >= p.X0) {
			t.Fatalf("Each: not in order: %v", l)
		}
		for y := p.Y0; y < p.Y1; y++ {
			for x := p.X0; x < p.X1; x++ {
				if at := (place{x, y}); seen[at] || !m.has[at] {
					t.Fatalf("Each: %v, at %v; %v", l, at, m)
				}
				seen[place{x, y}] = true
			}
		}
	}
	if len(seen) != len(m.has) {
		t.Fatalf("Each: %v; %v", l, m)
	}
}

// meets fails if r doesn't tell of each of l if they meet.
func meets(t *testing.T, r *region.Region, m plain, l []rect.Rect) {
	t.Helper()
	for _, p := range l {
		if r.Meets(p) != m.meets(p) {
			t.Fatalf("Meets(%v): %v; %v", p, r.Meets(p), m)
		}
	}
}
