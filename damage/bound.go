package damage

import (
	"mutoscope/affine"
	"mutoscope/api"
	"mutoscope/flat"
	"mutoscope/rect"
)

// Bound tells a rectangle within the frame that has all pixels of it that i
// covers.
func Bound(i flat.Item, frame rect.Rect) rect.Rect {
	w, h := i.Look.Size()
	// What i shows is cut to its look's size, as by one clip more.
	b := left(flat.Clip{Back: i.Back, Rect: rect.Of(0, 0, w, h)}, frame)
	for _, c := range i.Clips {
		b = left(c, b)
	}
	return b
}

// left tells a rectangle within r that has all pixels of r that c leaves.
func left(c flat.Clip, r rect.Rect) rect.Rect {
	if r.Empty() || c.Rect.Empty() {
		return rect.Rect{}
	}
	g := gridOf(c.Back, r.X0, r.Y0)
	// So it is of the zero way back alone: a right map's has no stretch below 2^-15,
	// and rounding takes at most half of that away.
	if g.det() == 0 {
		return r
	}
	var xs, ys span
	for k, p := range corners(c.Rect) {
		x, y := g.steps(p)
		if k == 0 {
			xs, ys = x, y
		}
		xs, ys = xs.join(x), ys.join(y)
	}
	x0, x1 := xs.whole(r.X1 - r.X0)
	y0, y1 := ys.whole(r.Y1 - r.Y0)
	return rect.Of(r.X0+x0, r.Y0+y0, r.X0+x1, r.Y0+y1)
}

// corners tells the points furthest out that lie in r.
func corners(r rect.Rect) [4]affine.Point {
	x0, y0 := int64(r.X0)*api.One, int64(r.Y0)*api.One
	x1, y1 := int64(r.X1)*api.One-1, int64(r.Y1)*api.One-1
	return [4]affine.Point{{X: x0, Y: y0}, {X: x1, Y: y0}, {X: x0, Y: y1}, {X: x1, Y: y1}}
}

// grid is where a way back takes the centres of pixels: the first one to at, and
// each step to the right, or down, that much further. That holds to the last bit,
// however a way back rounds, as a step is a whole number of pixels.
type grid struct{ at, right, down affine.Point }

// gridOf tells b's grid from the pixel x, y on.
func gridOf(b affine.Back, x, y int) grid {
	at := b.Take(flat.Centre(x, y))
	return grid{at, from(at, b.Take(flat.Centre(x+1, y))), from(at, b.Take(flat.Centre(x, y+1)))}
}

// det tells g's determinant: of numbers up to 2^30 it is whole, where a float's
// bits would be too few.
func (g grid) det() int64 {
	return g.right.X*g.down.Y - g.right.Y*g.down.X
}

// steps tells how many steps to the right, and how many down, lead to p.
func (g grid) steps(p affine.Point) (x, y span) {
	to := from(g.at, p)
	return ratio(to.X, g.down.Y, to.Y, g.down.X, g.det()), ratio(to.Y, g.right.X, to.X, g.right.Y, g.det())
}

// from tells how far it is from p to q.
func from(p, q affine.Point) affine.Point {
	return affine.Point{X: q.X - p.X, Y: q.Y - p.Y}
}
