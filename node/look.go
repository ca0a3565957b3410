package node

import (
	"mutoscope/api"
	"mutoscope/image"
	"mutoscope/pixel"
	"mutoscope/rect"
)

// The kinds of looks.
const (
	Bare = iota
	Fill
	Image
)

// Look is what a node shows: nothing, W by H pixels of one colour, or an image.
type Look struct {
	Kind  int
	W, H  int
	Color pixel.Pixel
	Image image.Image
}

// FillOf tells the look of w by h pixels of the colour c.
func FillOf(w, h int, c pixel.Pixel) Look {
	return Look{Kind: Fill, W: w, H: h, Color: c}
}

// ImageOf tells the look of a copy of m.
func ImageOf(m image.Image) Look {
	return Look{Kind: Image, Image: m.Copy()}
}

// Check tells OK of a look that is right, or else why it isn't.
func (l Look) Check() api.Errno {
	switch l.Kind {
	case Bare:
		return formed(!l.hasFill() && !l.hasImage())
	case Fill:
		if min(l.W, l.H) < 1 || max(l.W, l.H) > api.MaxSide {
			return api.ErrRange
		}
		return formed(l.Color.Right() && !l.hasImage())
	case Image:
		return formed(l.Image.Small() && !l.hasFill())
	}
	return api.ErrRange
}

// Size tells how wide and how high l is.
func (l Look) Size() (w, h int) {
	switch l.Kind {
	case Fill:
		return l.W, l.H
	case Image:
		return l.Image.W, l.Image.H
	}
	return 0, 0
}

// At tells l's colour at the pixel x, y, or 0, if its size has none there.
func (l Look) At(x, y int) pixel.Pixel {
	if l.Kind == Image {
		return l.Image.At(x, y)
	}
	if w, h := l.Size(); !rect.Of(0, 0, w, h).Has(x, y) {
		return 0
	}
	return l.Color
}

// copied tells l with an image of its own.
func (l Look) copied() Look {
	l.Image = l.Image.Copy()
	return l
}

// hasFill tells if something of a fill is set.
func (l Look) hasFill() bool {
	return l.W != 0 || l.H != 0 || l.Color != 0
}

// hasImage tells if something of an image is set.
func (l Look) hasImage() bool {
	return !image.Equal(l.Image, image.Image{})
}

// equalLooks tells if all of both is the same.
func equalLooks(a, b Look) bool {
	return a.Kind == b.Kind && a.W == b.W && a.H == b.H && a.Color == b.Color && image.Equal(a.Image, b.Image)
}

// formed tells the error of what is in its form, or isn't.
func formed(ok bool) api.Errno {
	if !ok {
		return api.ErrForm
	}
	return api.OK
}
