package small_test

import (
	"testing"

	"mutoscope/rect"
	"mutoscope/small"
)

// The tests of the layers lean on this: each four numbers are one of the rectangles, once, and no others.
func TestRects(t *testing.T) {
	for _, c := range [][3]int{{0, 0, 1}, {-2, 4, 7 * 7 * 7 * 7}, {3, 5, 81}, {1, 0, 0}} {
		least, most := c[0], c[1]
		l, seen := small.Rects(least, most), map[rect.Rect]bool{}
		for _, r := range l {
			seen[r] = true
			if min(r.X0, r.Y0, r.X1, r.Y1) < least || max(r.X0, r.Y0, r.X1, r.Y1) > most {
				t.Errorf("Rects(%d, %d): %v", least, most, r)
			}
		}
		if len(l) != c[2] || len(seen) != c[2] {
			t.Errorf("Rects(%d, %d): %d, %d of them others, not %d", least, most, len(l), len(seen), c[2])
		}
	}
}
