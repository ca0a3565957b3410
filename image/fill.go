package image

import (
	"cmp"
	"slices"

	"mutoscope/pixel"
	"mutoscope/rect"
)

// edge is where a rectangle begins, or ends: from the line y on the pixels from
// x0 up to x1 lie in one more, or in one fewer, as more is 1 or -1.
type edge struct{ y, x0, x1, more int }

// Fill makes all pixels of m that lie in one of l p, and tells how many these are.
func (m Image) Fill(p pixel.Pixel, l ...rect.Rect) int {
	// Of a p that isn't right m would come to be wrong.
	if !m.whole() || !p.Right() {
		return 0
	}
	n := 0
	each(m.parts(l), func(r rect.Rect) {
		m.lay(p, r)
		n += r.Area()
	})
	return n
}

// parts tells what of m's pixels each of l has, of those that have some.
func (m Image) parts(l []rect.Rect) []rect.Rect {
	var parts []rect.Rect
	for _, r := range l {
		if r = r.Cut(m.Frame()); !r.Empty() {
			parts = append(parts, r)
		}
	}
	return parts
}

// lay makes all pixels of r, which m has, p.
func (m Image) lay(p pixel.Pixel, r rect.Rect) {
	for y := r.Y0; y < r.Y1; y++ {
		line := m.Pixels[y*m.W+r.X0 : y*m.W+r.X1]
		for k := range line {
			line[k] = p
		}
	}
}

// each gives to do all pixels of parts as rectangles, each pixel in one of them.
// It goes down from edge to edge, and takes the lines between two of them once,
// however many parts lie on them, one over the other.
func each(parts []rect.Rect, do func(r rect.Rect)) {
	bound, edges := rect.Rect{}.Join(parts...), edgesOf(parts)
	// In how many parts more a pixel lies than the one to its left.
	steps := make([]int, bound.X1-bound.X0+1)
	for k, e := range edges {
		steps[e.x0-bound.X0] += e.more
		steps[e.x1-bound.X0] -= e.more
		if k+1 < len(edges) && e.y < edges[k+1].y {
			eachRow(steps, func(x0, x1 int) {
				do(rect.Of(bound.X0+x0, e.y, bound.X0+x1, edges[k+1].y))
			})
		}
	}
}

// edgesOf tells the edges of parts, from above on.
func edgesOf(parts []rect.Rect) []edge {
	l := make([]edge, 0, 2*len(parts))
	for _, r := range parts {
		l = append(l, edge{r.Y0, r.X0, r.X1, 1}, edge{r.Y1, r.X0, r.X1, -1})
	}
	slices.SortFunc(l, func(a, b edge) int { return cmp.Compare(a.y, b.y) })
	return l
}

// eachRow gives to do where each row of pixels that lie in some part begins, and
// where it ends.
func eachRow(steps []int, do func(x0, x1 int)) {
	in, x0 := 0, 0
	for x, step := range steps {
		if in == 0 {
			x0 = x
		}
		in += step
		if in == 0 && x0 < x {
			do(x0, x)
		}
	}
}
