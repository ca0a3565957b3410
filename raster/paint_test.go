package raster_test

import (
	"math"
	"slices"
	"testing"

	"mutoscope/affine"
	"mutoscope/api"
	"mutoscope/flat"
	"mutoscope/image"
	"mutoscope/node"
	"mutoscope/noise"
	"mutoscope/pixel"
	"mutoscope/raster"
	"mutoscope/rect"
	"mutoscope/scene"
	"mutoscope/scenery"
	"mutoscope/small"
)

// P15.2: by hand: two that have a pixel in common, one beyond the image, and none; each pixel once, and no other one.
func TestPaintByHand(t *testing.T) {
	s := scenery.Of(4, 2, scenery.With(func(n *node.Node) { n.Look = node.FillOf(4, 2, 0x40000080) }))
	m := image.Image{W: 4, H: 2, Pixels: []pixel.Pixel{1, 2, 3, 4, 5, 6, 7, 8}}
	if n := raster.Paint(m, flat.List(s), rect.Of(1, 0, 3, 1), rect.Of(2, 0, 3, 9), rect.Of(9, 9, 12, 12), rect.Rect{X0: 4, Y0: 2}); n != 3 || !slices.Equal(m.Pixels, []pixel.Pixel{1, 0x40000080, 0x40000080, 4, 5, 6, 0x40000080, 8}) {
		t.Errorf("Paint: %d, %08x", n, m.Pixels)
	}
	if n := raster.Paint(m, nil, rect.Of(0, 0, 2, 1)); n != 2 || !slices.Equal(m.Pixels, []pixel.Pixel{0, 0, 0x40000080, 4, 5, 6, 0x40000080, 8}) {
		t.Errorf("Paint of no items: %d, %08x", n, m.Pixels)
	}
	if n := raster.Paint(m, flat.List(s)); n != 0 || !slices.Equal(m.Pixels, []pixel.Pixel{0, 0, 0x40000080, 4, 5, 6, 0x40000080, 8}) {
		t.Errorf("Paint of no rectangles: %d, %08x", n, m.Pixels)
	}
}

// some tells items that cover much of a frame of that side, some of them not wholly.
func some(next func() uint64, side int) []flat.Item {
	for {
		if l := flat.List(scenery.Scene(next, side, side, 8)); len(l) > 2 {
			return l
		}
	}
}

// P15.2: each small rectangle, in and about the image, turned and empty ones among them.
func TestPaintOne(t *testing.T) {
	next := noise.Numbers(11)
	for _, s := range [][2]int{{1, 1}, {1, 3}, {3, 1}, {4, 3}} {
		l := some(next, 4)
		for _, r := range small.Rects(-1, 5) {
			painted(t, noise.Image(next, s[0], s[1]), l, r)
		}
	}
}

// P15.2: each two small rectangles, which have pixels in common or not: each pixel counts once, and is stacked once.
func TestPaintTwo(t *testing.T) {
	next := noise.Numbers(12)
	l := some(next, 3)
	m := noise.Image(next, 2, 2)
	for _, r := range small.Rects(0, 2) {
		for _, q := range small.Rects(0, 2) {
			painted(t, m, l, r, q)
		}
	}
}

// P15.2: any number of rectangles, in images of any size, whatever scene the items are of.
func TestPaintMany(t *testing.T) {
	next, total := noise.Numbers(13), 0
	for range 1500 {
		w, h := 1+int(next()%24), 1+int(next()%24)
		r := make([]rect.Rect, next()%9)
		for k := range r {
			x, y := int(next()%30)-4, int(next()%30)-4
			r[k] = rect.Rect{X0: x, Y0: y, X1: x + int(next()%14) - 1, Y1: y + int(next()%14) - 1}
		}
		total += painted(t, noise.Image(next, w, h), some(next, 20), r...)
	}
	if total < 20000 {
		t.Errorf("%d are painted", total)
	}
}

// P15.2: rectangles whose numbers are as far as layer 6's go, and past these (of which nothing is promised).
func TestPaintFar(t *testing.T) {
	next := noise.Numbers(14)
	l := some(next, 10)
	for _, far := range []int{1 << 30, 1<<30 + 1, 1 << 31, 1 << 32, 1 << 40} {
		for _, r := range []rect.Rect{{X0: -far, Y0: -far, X1: far, Y1: far}, {X0: 3, Y0: 2, X1: far, Y1: far}, {X0: -far, Y0: -far, X1: 3, Y1: 2}, {X0: -far, Y0: 1, X1: far, Y1: 2}, {X0: 1, Y0: -far, X1: 2, Y1: far}, {X0: far, Y0: far, X1: -far, Y1: -far}, {X0: far - 1, Y0: 0, X1: far, Y1: 9}, {X0: far, Y0: 0, X1: far + 5, Y1: 5}} {
			painted(t, noise.Image(next, 10, 7), l, r)
			painted(t, noise.Image(next, 10, 7), l, r, rect.Of(1, 1, 4, 4), r)
		}
	}
	for _, a := range []int{math.MinInt, math.MinInt + 1, -1 << 62, 0, 1 << 62, math.MaxInt} {
		for _, b := range []int{math.MinInt, -1 << 62, 3, 1 << 62, math.MaxInt} {
			painted(t, noise.Image(next, 10, 7), l, rect.Rect{X0: a, Y0: 0, X1: b, Y1: b}, rect.Rect{X0: 0, Y0: a, X1: 2, Y1: b})
		}
	}
}

// P15.2: what is painted piece by piece is the picture, whatever the pieces are, and in whatever order they come.
func TestPaintPieces(t *testing.T) {
	for seed := range uint64(40) {
		next := noise.Numbers(seed)
		s := scenery.Scene(next, 40, 30, 20)
		m, l := noise.Image(next, 40, 30), flat.List(s)
		for n := 0; n < 40*30; {
			x, y := int(next()%40), int(next()%30)
			r := rect.Of(x, y, x+1+int(next()%12), y+1+int(next()%12))
			for _, p := range r.Less(rect.Of(x+2, y+2, x+3, y+3)) {
				raster.Paint(m, l, p)
			}
			n += raster.Paint(m, l, r)
		}
		raster.Paint(m, l, rect.Of(0, 0, 40, 11), rect.Of(0, 20, 40, 30))
		raster.Paint(m, l, rect.Of(0, 11, 25, 20), rect.Of(20, 10, 40, 25))
		if !image.Equal(m, raster.Pix(s)) {
			t.Fatalf("seed %d", seed)
		}
	}
}

// P15.2: an image needn't have the sides of the items' scene.
func TestPaintOtherSides(t *testing.T) {
	next := noise.Numbers(15)
	l := some(next, 12)
	for _, s := range [][2]int{{1, 1}, {5, 40}, {40, 5}, {64, 64}, {api.MaxSide, 1}, {1, api.MaxSide}} {
		m := noise.Image(next, s[0], s[1])
		if n := painted(t, m, l, m.Frame()); n != s[0]*s[1] {
			t.Errorf("%v: %d", s, n)
		}
	}
}

// P15.2: few pixels of the greatest image are painted, and very many rectangles are, in short time.
func TestPaintLimits(t *testing.T) {
	var nodes []node.Node
	for k := range 1000 {
		nodes = append(nodes, scenery.With(func(n *node.Node) {
			n.Map, n.Look = affine.Shift(int64(k*37%4096)*one, int64(k*101%4096)*one), node.FillOf(30, 30, pixel.Pixel(1+k%255))
		}))
	}
	l := flat.List(scenery.Of(1, 1, nodes...))
	m, _ := image.New(api.MaxSide, api.MaxSide)
	for k := range 200 {
		x, y := k*37%4096, k*101%4096
		r := rect.Of(x, y, x+2, y+2).Cut(m.Frame())
		if n := raster.Paint(m, l, r); n != r.Area() || m.At(x, y) != plainPixel(l, x, y) {
			t.Fatalf("%v: %d, %08x", r, n, m.At(x, y))
		}
	}
	small, _ := image.New(64, 64)
	var r []rect.Rect
	for k := range 100000 {
		r = append(r, rect.Of(k%64, k/7%64, k%64+1+k%3, k/7%64+1+k%5))
	}
	painted(t, small, l, r...)
}

// P15.2: many rectangles that lie apart, in rows, in columns, and anywhere: each item reaches some of them.
func TestPaintApart(t *testing.T) {
	next, total := noise.Numbers(18), 0
	for k := range 300 {
		w, h := 1+int(next()%60), 1+int(next()%60)
		r := make([]rect.Rect, 2+next()%200)
		for j := range r {
			x, y := int(next()%60), int(next()%60)
			switch k % 3 {
			case 0:
				x, y = x/3*3, y/2*2
			case 1:
				y = 0
			}
			r[j] = rect.Of(x, y, x+1+int(next()%2), y+1+int(next()%2)*(k%4)*9)
		}
		total += painted(t, noise.Image(next, w, h), some(next, 60), r...)
	}
	if total < 20000 {
		t.Errorf("%d are painted", total)
	}
}

// P15.2: very many items that lie apart, of which all are painted, each by a rectangle of its own, in short time.
func TestPaintEachApart(t *testing.T) {
	const n, side = 1 << 14, 12
	var nodes []node.Node
	var r []rect.Rect
	m, _ := image.New(128*16, 128*16)
	want := m.Copy()
	for k := range n {
		x, y, c := k%128*16, k/128*16, pixel.Pixel(1+k%255)
		nodes = append(nodes, scenery.With(func(n *node.Node) {
			n.Map, n.Look = affine.Shift(int64(x)*one, int64(y)*one), node.FillOf(side, side, c)
		}))
		r = append(r, rect.Of(x, y, x+side, y+side))
		want.Fill(c, r[k])
	}
	if painted := raster.Paint(m, flat.List(scenery.Of(1, 1, nodes...)), r...); painted != n*side*side || !image.Equal(m, want) {
		t.Errorf("%d are painted", painted)
	}
}

// wrong tells images that aren't right: of sides that may not be, and of too few or too many pixels.
func wrong() []image.Image {
	l := []image.Image{{}}
	for _, w := range []int{math.MinInt, -1, 0, 1, 3, api.MaxSide, api.MaxSide + 1, 1 << 32, math.MaxInt} {
		for _, h := range []int{math.MinInt, -2, 0, 2, 3, api.MaxSide, 1 << 33, math.MaxInt} {
			for _, n := range []int{0, 1, 5, 7} {
				l = append(l, image.Image{W: w, H: h, Pixels: make([]pixel.Pixel, n)})
			}
		}
	}
	return l
}

// P1, P15.2: images that aren't right, of which nothing is promised: each call ends.
func TestPaintWrong(t *testing.T) {
	l := flat.List(scenery.Of(9, 9, scenery.With(func(n *node.Node) { n.Look = node.FillOf(9, 9, 0xff) })))
	for _, m := range wrong() {
		for _, r := range []rect.Rect{m.Frame(), rect.Of(0, 0, 9, 9), {X0: math.MinInt, Y0: math.MinInt, X1: math.MaxInt, Y1: math.MaxInt}} {
			raster.Paint(m, l, r)
		}
	}
	// What was wrong of an image's pixels is right, where it is painted.
	m := image.Image{W: 2, H: 1, Pixels: []pixel.Pixel{0x12345600, 0xffffff00}}
	if n := raster.Paint(m, l, rect.Of(1, 0, 2, 1)); n != 1 || m.Pixels[1] != 0xff || m.Pixels[0] != 0x12345600 {
		t.Errorf("%d, %08x", n, m.Pixels)
	}
}

// The rule of memory: what is handed in stays as it is, spare room too, but for the image's own pixels.
func TestPaintMemory(t *testing.T) {
	next := noise.Numbers(16)
	s := scenery.Scene(next, 12, 9, 12)
	l, again := flat.List(s), flat.List(s)
	for k := range l {
		l[k].Clips = append(l[k].Clips, flat.Clip{Rect: rect.Of(1, 2, 3, 4)})[:len(l[k].Clips)]
	}
	l = append(l, flat.Item{Id: 77})[:len(l)]
	r := []rect.Rect{{X0: 9, Y0: 9}, rect.Of(1, 1, 5, 5), rect.Of(-3, 3, 30, 4), rect.Of(0, 0, 1, 1), {X0: 7}}
	given := slices.Clone(r)
	all := make([]pixel.Pixel, 12*9+20)
	for k := range all {
		all[k] = pixel.Pixel(0x01020304 + k)
	}
	was := slices.Clone(all)
	m := image.Image{W: 12, H: 9, Pixels: all[10 : 10+12*9]}
	painted(t, m, l, r[:4]...)
	raster.Paint(m, l, m.Frame())
	for x := -2; x < 14; x++ {
		raster.Pixel(l, x, 3)
	}
	if !slices.Equal(all[:10], was[:10]) || !slices.Equal(all[10+12*9:], was[10+12*9:]) {
		t.Error("what lies beside the pixels isn't what it was")
	}
	if !slices.Equal(r, given) || !slices.EqualFunc(l, again, flat.Equal) || l[:len(l)+1][len(l)].Id != 77 {
		t.Error("what was handed in isn't what it was")
	}
	for _, i := range l {
		if c := i.Clips[:len(i.Clips)+1]; c[len(i.Clips)].Rect != rect.Of(1, 2, 3, 4) {
			t.Error("spare room of clips isn't what it was")
		}
	}
}

// The rule of memory: each picture is new, and shares nothing with the scene.
func TestPixMemory(t *testing.T) {
	next := noise.Numbers(17)
	s, _ := scene.New(6, 6, 3)
	do(t, s, scene.Op{Kind: scene.SetLook, Look: node.ImageOf(noise.Image(next, 6, 6))})
	a, c := raster.Pix(s), s.Copy()
	want := a.Copy()
	clear(a.Pixels[:cap(a.Pixels)])
	b := raster.Pix(s)
	if !image.Equal(b, want) || !scene.Equal(s, c) {
		t.Fatalf("%08x, not %08x", b.Pixels, want.Pixels)
	}
	do(t, s, scene.Op{Kind: scene.SetLook, Look: node.FillOf(1, 1, 1)})
	if !image.Equal(b, want) || slices.Max(a.Pixels) != 0 {
		t.Error("a picture doesn't stay")
	}
}
