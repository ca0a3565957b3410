package rect_test

import (
	"math/bits"
	"slices"
	"testing"

	"mutoscope/rect"
)

// The plain model's pixels are those of a small square, from low to high: each small rectangle that is asked lies in it.
const (
	low  = -2
	high = 4
	side = high - low
)

// pixels is a set of the square's pixels, one bit each.
type pixels uint64

// bit is the pixel x, y alone.
func bit(x, y int) pixels {
	return 1 << ((y-low)*side + x - low)
}

// pixelsOf is the pixels of r, by the chapter's words.
func pixelsOf(r rect.Rect) pixels {
	p := pixels(0)
	for y := low; y < high; y++ {
		for x := low; x < high; x++ {
			if r.X0 <= x && x < r.X1 && r.Y0 <= y && y < r.Y1 {
				p |= bit(x, y)
			}
		}
	}
	return p
}

// count is how many there are.
func (p pixels) count() int {
	return bits.OnesCount64(uint64(p))
}

// bound is the least rectangle that has them all, sought among all there are.
func (p pixels) bound() rect.Rect {
	if p == 0 {
		return rect.Rect{}
	}
	b := rect.Rect{X0: low, Y0: low, X1: high, Y1: high}
	for b.X0 < high && pixelsOf(rect.Rect{X0: b.X0 + 1, Y0: b.Y0, X1: b.X1, Y1: b.Y1})&p == p {
		b.X0++
	}
	for b.Y0 < high && pixelsOf(rect.Rect{X0: b.X0, Y0: b.Y0 + 1, X1: b.X1, Y1: b.Y1})&p == p {
		b.Y0++
	}
	for b.X1 > low && pixelsOf(rect.Rect{X0: b.X0, Y0: b.Y0, X1: b.X1 - 1, Y1: b.Y1})&p == p {
		b.X1--
	}
	for b.Y1 > low && pixelsOf(rect.Rect{X0: b.X0, Y0: b.Y0, X1: b.X1, Y1: b.Y1 - 1})&p == p {
		b.Y1--
	}
	return b
}

// parts is what P6.2 says of Less: the rows above, the pixels to the left and to the right of the lines that both have, and the rows below, each as the least rectangle about them.
func parts(r, s pixels) []rect.Rect {
	if r == 0 {
		return nil
	}
	both := r & s
	if both == 0 {
		return []rect.Rect{r.bound()}
	}
	lines := both.bound()
	var above, left, right, below pixels
	for y := low; y < high; y++ {
		for x := low; x < high; x++ {
			switch p := bit(x, y) & r; {
			case y < lines.Y0:
				above |= p
			case y >= lines.Y1:
				below |= p
			case x < lines.X0:
				left |= p
			case x >= lines.X1:
				right |= p
			}
		}
	}
	var l []rect.Rect
	for _, p := range []pixels{above, left, right, below} {
		if p != 0 {
			l = append(l, p.bound())
		}
	}
	return l
}

// all fails if one of the calls on r, s and u doesn't tell what their pixels say.
func all(t *testing.T, r, s, u rect.Rect) {
	t.Helper()
	p, q, o := pixelsOf(r), pixelsOf(s), pixelsOf(u)
	if got, want := r.Cut(s, u), (p & q & o).bound(); got != want {
		t.Fatalf("%v Cut %v, %v: %v, not %v", r, s, u, got, want)
	}
	if got, want := r.Join(s, u), (p | q | o).bound(); got != want {
		t.Fatalf("%v Join %v, %v: %v, not %v", r, s, u, got, want)
	}
}

// pair fails if one of the calls on r and s doesn't tell what their pixels say.
func pair(t *testing.T, r, s rect.Rect) {
	t.Helper()
	p, q := pixelsOf(r), pixelsOf(s)
	if got, want := r.Cut(s), (p & q).bound(); got != want {
		t.Fatalf("%v Cut %v: %v, not %v", r, s, got, want)
	}
	if got, want := r.Join(s), (p | q).bound(); got != want {
		t.Fatalf("%v Join %v: %v, not %v", r, s, got, want)
	}
	if got, want := r.Within(s), p&q == p; got != want {
		t.Fatalf("%v Within %v: %v", r, s, got)
	}
	got := r.Less(s)
	if want := parts(p, q); !slices.Equal(got, want) {
		t.Fatalf("%v Less %v: %v, not %v", r, s, got, want)
	}
	apart(t, r, s, got)
}

// apart fails if l isn't just the pixels of r without those of s, each once, in at most four rectangles that have some.
func apart(t *testing.T, r, s rect.Rect, l []rect.Rect) {
	t.Helper()
	together, sum := pixels(0), 0
	for _, part := range l {
		p := pixelsOf(part)
		if p == 0 {
			t.Fatalf("%v Less %v: an empty one in %v", r, s, l)
		}
		together |= p
		sum += p.count()
	}
	if want := pixelsOf(r) &^ pixelsOf(s); together != want || sum != want.count() || len(l) > 4 {
		t.Fatalf("%v Less %v: %v", r, s, l)
	}
}
