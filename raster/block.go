package raster

import (
	"mutoscope/flat"
	"mutoscope/image"
	"mutoscope/rect"
)

const (
	fewPixels   = 64 // of a block, that are asked one by one
	behindPoint = 16 // bits of a number
)

// lay lays i's colours over m's pixels in the block p. Most items are small, and
// so a block is halved, again and again, and what i doesn't reach isn't asked.
func lay(m image.Image, i *flat.Item, p rect.Rect) {
	if !reaches(i, p) {
		return
	}
	if p.Area() <= fewPixels {
		layEach(m, i, p)
		return
	}
	a, b := halves(p)
	lay(m, i, a)
	lay(m, i, b)
}

// layEach lays i's colours over m's pixels in p, one by one.
func layEach(m image.Image, i *flat.Item, p rect.Rect) {
	for y := p.Y0; y < p.Y1; y++ {
		for x := p.X0; x < p.X1; x++ {
			m.Set(x, y, i.At(x, y).Over(m.At(x, y)))
		}
	}
}

// reaches tells if i may have a colour at a pixel of p. It may have none, though
// it reaches p.
func reaches(i *flat.Item, p rect.Rect) bool {
	w, h := i.Look.Size()
	// What i shows is cut to its look's size, as by one clip more.
	if !leavesSome(flat.Clip{Back: i.Back, Rect: rect.Of(0, 0, w, h)}, p) {
		return false
	}
	for _, c := range i.Clips {
		if !leavesSome(c, p) {
			return false
		}
	}
	return true
}

// leavesSome tells if c may leave a pixel of p.
func leavesSome(c flat.Clip, p rect.Rect) bool {
	return !taken(c, p).Cut(c.Rect).Empty()
}

// taken tells a rectangle that has all pixels to which c's way back takes those
// of p. Along a line, and along a column, each number of what it tells goes one
// way only, rounded as it is, so that it is the least, and the greatest, at some
// corner.
func taken(c flat.Clip, p rect.Rect) rect.Rect {
	at := func(x, y int) rect.Rect {
		q := c.Back.Take(flat.Centre(x, y))
		u, v := int(q.X>>behindPoint), int(q.Y>>behindPoint)
		return rect.Rect{X0: u, Y0: v, X1: u + 1, Y1: v + 1}
	}
	x, y := p.X1-1, p.Y1-1
	return at(p.X0, p.Y0).Join(at(x, p.Y0), at(p.X0, y), at(x, y))
}

// halves tells both halves of p, which has two pixels or more.
func halves(p rect.Rect) (a, b rect.Rect) {
	a, b = p, p
	if p.X1-p.X0 > p.Y1-p.Y0 {
		a.X1 = (p.X0 + p.X1) / 2
		b.X0 = a.X1
	} else {
		a.Y1 = (p.Y0 + p.Y1) / 2
		b.Y0 = a.Y1
	}
	return a, b
}
