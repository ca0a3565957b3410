package pixel_test

import (
	"testing"

	"mutoscope/pixel"
)

// parts is a pixel of the plain model: R, G, B, A.
type parts [4]int

func partsOf(p pixel.Pixel) parts {
	r, g, b, a := p.Parts()
	return parts{r, g, b, a}
}

// pixelOf is the bits of l's pixel, by the chapter's words: whole numbers, from the lowest part on.
func pixelOf(l parts) pixel.Pixel {
	return pixel.Pixel(((l[0]*256+l[1])*256+l[2])*256 + l[3])
}

// right is: all from 0 to 255, and no colour above A.
func (l parts) right() bool {
	for _, x := range l {
		if x < 0 || x > 255 || x > l[3] {
			return false
		}
	}
	return true
}

// products holds p by q of all parts, found without a division: as q comes to be one more, the nearest whole number is the same, or one of those right above it.
type products [256][256]int

func plainProducts() *products {
	var l products
	for p := range 256 {
		x := 0
		for q := range 256 {
			for far(p*q, 255*(x+1)) < far(p*q, 255*x) {
				x++
			}
			l[p][q] = x
		}
	}
	return &l
}

func far(a, b int) int {
	return max(a-b, b-a)
}

// by is the pixel l by all of these, one behind the other.
func (m *products) by(l parts, by ...int) parts {
	for _, q := range by {
		for k := range l {
			l[k] = m[l[k]][q]
		}
	}
	return l
}

// over is the pixel s over the pixel d.
func (m *products) over(s, d parts) parts {
	d = m.by(d, 255-s[3])
	for k := range s {
		d[k] += s[k]
	}
	return d
}

// overAll is p over the first one of l, that over the next one, and so on.
func (m *products) overAll(p parts, l []pixel.Pixel) parts {
	for _, d := range l {
		p = m.over(p, partsOf(d))
	}
	return p
}

// stack is the pixel 0, and each of l over what there is.
func (m *products) stack(l []pixel.Pixel) parts {
	var d parts
	for _, p := range l {
		d = m.over(partsOf(p), d)
	}
	return d
}

// same fails if got isn't the pixel of want, or isn't right.
func same(t *testing.T, got pixel.Pixel, want parts) {
	t.Helper()
	if got != pixelOf(want) || !got.Right() || !want.right() {
		t.Fatalf("%08x, not %d", got, want)
	}
}
