package node_test

import (
	"math"
	"slices"

	"mutoscope/affine"
	"mutoscope/api"
	"mutoscope/image"
	"mutoscope/node"
	"mutoscope/noise"
	"mutoscope/pixel"
	"mutoscope/rect"
)

// plainLook is what Check of l tells, by the chapter's words: what of it is set is held against what its kind has.
func plainLook(l node.Look) api.Errno {
	has := [][]string{{}, {"W", "H", "Color"}, {"Image"}}
	if !from(l.Kind, 0, len(has)-1) || l.Kind == 1 && !(from(l.W, 1, 4096) && from(l.H, 1, 4096)) {
		return api.ErrRange
	}
	set := map[string]bool{"W": l.W != 0, "H": l.H != 0, "Color": l.Color != 0, "Image": l.Image.W != 0 || l.Image.H != 0 || len(l.Image.Pixels) > 0}
	for name, is := range set {
		if is && !slices.Contains(has[l.Kind], name) {
			return api.ErrForm
		}
	}
	if !rightPixel(l.Color) || l.Kind == 2 && !smallImage(l.Image) {
		return api.ErrForm
	}
	return api.OK
}

// plainNode is what Check of n tells, by the chapter's words.
func plainNode(n node.Node) api.Errno {
	const fix = 1 << 30
	m, c := n.Map, n.Clip
	for _, x := range []int64{m.A, m.B, m.C, m.D, m.E, m.F} {
		if x < -fix || x > fix {
			return api.ErrRange
		}
	}
	if !from(n.Opacity, 0, 255) {
		return api.ErrRange
	}
	for _, x := range []int{c.X0, c.Y0, c.X1, c.Y1} {
		if n.Clipped && !from(x, -16384, 16384) {
			return api.ErrRange
		}
	}
	for _, x := range []int{c.X0, c.Y0, c.X1, c.Y1} {
		if !n.Clipped && x != 0 {
			return api.ErrForm
		}
	}
	return plainLook(n.Look)
}

func from(x, least, most int) bool {
	return least <= x && x <= most
}

func rightPixel(p pixel.Pixel) bool {
	a := p % 256
	return p/256%256 <= a && p/65536%256 <= a && p/16777216 <= a
}

func smallImage(m image.Image) bool {
	return from(m.W, 1, 256) && from(m.H, 1, 256) && len(m.Pixels) == m.W*m.H && !slices.ContainsFunc(m.Pixels, func(p pixel.Pixel) bool { return !rightPixel(p) })
}

// plainEqual is whether all of both is the same, pixel by pixel; nil and empty lists are one.
func plainEqual(a, b node.Node) bool {
	p, q := a.Look.Image.Pixels, b.Look.Image.Pixels
	if len(p) != len(q) {
		return false
	}
	for k := range p {
		if p[k] != q[k] {
			return false
		}
	}
	return numbersOf(a) == numbersOf(b)
}

// numbersOf is all of n but its image's pixels.
func numbersOf(n node.Node) [19]int {
	m, c, l := n.Map, n.Clip, n.Look
	return [19]int{
		int(m.A), int(m.B), int(m.C), int(m.D), int(m.E), int(m.F),
		n.Opacity, number(n.Hidden), number(n.Clipped), c.X0, c.Y0, c.X1, c.Y1,
		l.Kind, l.W, l.H, int(l.Color), l.Image.W, l.Image.H,
	}
}

func number(is bool) int {
	if is {
		return 1
	}
	return 0
}

// farNumbers is such as lie about nought, about the bounds of fewer bits, or at those of all numbers.
func farNumbers() []int {
	return []int{0, 1, 2, -1, -2, 1 << 31, 1 << 32, 1<<32 + 1, 1<<32 + 2, -1 << 32, 1 << 62, math.MaxInt, math.MinInt, math.MinInt + 1}
}

// sides is such as a fill, or an image, may have, and such as it may not.
func sides() []int {
	return append(farNumbers(), 255, 256, 257, 4095, 4096, 4097, -256, -4096)
}

// kinds is those that there are, and others.
func kinds() []int {
	return append(farNumbers(), 3, 4, 255, 256, 257, 258, -3)
}

// colours is right ones, and such as have a part above A, each in another way.
func colours() []pixel.Pixel {
	return []pixel.Pixel{0, 1, 0xff, 0x010101ff, 0xffffffff, 0x01000001, 0x01000000, 0x00010000, 0x00000100, 0xff0000fe, 0x00ff00fe, 0x0000fffe}
}

// images is none, in both ways, small ones, and such as aren't right, or not small, each in another way.
func images() []image.Image {
	next := noise.Numbers(1)
	l := []image.Image{
		{}, {Pixels: []pixel.Pixel{}}, {W: 1}, {H: 1}, {W: 1, H: 1}, {W: -1, H: -1, Pixels: []pixel.Pixel{0}}, {Pixels: []pixel.Pixel{0}}, {W: math.MinInt}, {H: math.MaxInt},
		{W: 1, H: 1, Pixels: []pixel.Pixel{0}}, {W: 1, H: 1, Pixels: []pixel.Pixel{0x100}}, {W: 2, H: 1, Pixels: []pixel.Pixel{1}}, {W: 2, H: 1, Pixels: []pixel.Pixel{1, 2, 3}}, {W: 0, H: 1, Pixels: []pixel.Pixel{}}, {W: 1, H: 0, Pixels: []pixel.Pixel{}},
	}
	for _, s := range [][2]int{{1, 2}, {3, 2}, {256, 1}, {1, 256}, {256, 256}, {257, 1}, {1, 257}, {257, 257}, {4096, 1}, {1, 4096}} {
		l = append(l, noise.Image(next, s[0], s[1]))
	}
	wrong := noise.Image(next, 256, 256)
	wrong.Pixels[256*256-1] = 0x100
	return append(l, wrong, image.Image{W: 256, H: 256, Pixels: wrong.Pixels[1:]})
}

// looks is a few right ones of each kind, and such as Check tells each error of.
func looks() []node.Look {
	next := noise.Numbers(2)
	return []node.Look{
		{}, node.FillOf(2, 1, 255), node.FillOf(4096, 4096, 0), node.ImageOf(noise.Image(next, 3, 2)), node.ImageOf(noise.Image(next, 1, 1)),
		{Kind: 3}, {Kind: -1, W: 1}, node.FillOf(0, 1, 0), node.FillOf(4097, 1, 0x100),
		{W: 1}, {Image: noise.Image(next, 2, 2)}, node.FillOf(1, 1, 0x100), {Kind: node.Fill, W: 1, H: 1, Image: noise.Image(next, 2, 1)}, {Kind: node.Image}, {Kind: node.Image, Color: 1, Image: noise.Image(next, 2, 3)},
	}
}

// maps is right ones, those at the bounds among them, and such as have one wrong number, at each place.
func maps() []affine.Map {
	const most = api.MaxFix
	l := []affine.Map{affine.One(), {}, affine.Turn(1), {A: most, B: most, C: most, D: most, E: most, F: most}, {A: -most, B: -most, C: -most, D: -most, E: -most, F: -most}}
	for place := range 6 {
		for _, x := range []int64{most, -most, most + 1, -most - 1, 1 << 32, math.MaxInt64, math.MinInt64} {
			m := affine.One()
			*[]*int64{&m.A, &m.B, &m.C, &m.D, &m.E, &m.F}[place] = x
			l = append(l, m)
		}
	}
	return l
}

// clips is right ones, turned and empty ones among them, and such as have one wrong number, at each place.
func clips() []rect.Rect {
	const most = 16384
	l := []rect.Rect{{}, {X0: 1, Y0: 2, X1: 3, Y1: 4}, {X0: -most, Y0: -most, X1: most, Y1: most}, {X0: most, Y0: most, X1: -most, Y1: -most}, {X0: 5, Y0: 5, X1: 5, Y1: 5}}
	for place := range 4 {
		for _, x := range []int{1, -1, most, -most, most + 1, -most - 1, 1 << 32, math.MaxInt, math.MinInt} {
			var r rect.Rect
			*[]*int{&r.X0, &r.Y0, &r.X1, &r.Y1}[place] = x
			l = append(l, r)
		}
	}
	return l
}

// opacities is right ones, and others.
func opacities() []int {
	return append(farNumbers(), 128, 254, 255, 256, 257, -255)
}
