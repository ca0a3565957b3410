package raster_test

import (
	"math"
	"slices"
	"testing"

	"mutoscope/affine"
	"mutoscope/api"
	"mutoscope/flat"
	"mutoscope/image"
	"mutoscope/node"
	"mutoscope/noise"
	"mutoscope/pixel"
	"mutoscope/raster"
	"mutoscope/rect"
	"mutoscope/scene"
	"mutoscope/scenery"
)

// The calls that the chapter lists, by their signatures.
var (
	_ func(l []flat.Item, x, y int) pixel.Pixel              = raster.Pixel
	_ func(s *scene.Scene) image.Image                       = raster.Pix
	_ func(m image.Image, l []flat.Item, r ...rect.Rect) int = raster.Paint
)

// P15.1, P15.2: the chapter's example.
func TestExample(t *testing.T) {
	s := scenery.Of(2, 1, scenery.With(func(n *node.Node) { n.Look = node.FillOf(1, 1, 255) }))
	m := pictured(t, s)
	if !slices.Equal(m.Pixels, []pixel.Pixel{255, 0}) {
		t.Errorf("Pix: %v", m)
	}
	m.Pixels[0], m.Pixels[1] = 1, 2
	if n := raster.Paint(m, flat.List(s), m.Frame()); n != 2 || !slices.Equal(m.Pixels, []pixel.Pixel{255, 0}) {
		t.Errorf("Paint: %d, %v", n, m)
	}
}

// P15.1: Pixel by hand: the last one lies on top, what has no colour leaves what there is, and of no items it is 0.
func TestPixelByHand(t *testing.T) {
	fill := func(x, w int, c pixel.Pixel, opacity int) node.Node {
		return scenery.With(func(n *node.Node) {
			n.Map, n.Look, n.Opacity = affine.Shift(int64(x)*one, 0), node.FillOf(w, 1, c), opacity
		})
	}
	l := flat.List(scenery.Of(8, 1, fill(0, 4, 0x0000ffff, 255), fill(1, 4, 0x80000080, 255), fill(2, 4, 0, 255), fill(3, 5, 0x00ff00ff, 128)))
	for x, want := range []pixel.Pixel{0x0000ffff, 0x80007fff, 0x80007fff, 0x40803fff, 0x408000c0, 0x00800080, 0x00800080, 0x00800080, 0} {
		if p := raster.Pixel(l, x, 0); p != want || raster.Pixel(l, x, 1) != 0 || raster.Pixel(nil, x, 0) != 0 {
			t.Errorf("Pixel(%d, 0): %08x, not %08x", x, p, want)
		}
	}
	for _, far := range []int{-16384, -1, 8, 16383} {
		if raster.Pixel(l, far, 0) != 0 || raster.Pixel(l, 0, far) != 0 {
			t.Errorf("Pixel at %d", far)
		}
	}
	slices.Reverse(l)
	if p := raster.Pixel(l, 3, 0); p != 0x0000ffff {
		t.Errorf("the other way round: %08x", p)
	}
}

// P15.1: Pixel is told of pixels that no image has, too.
func TestPixelOutside(t *testing.T) {
	n := scenery.With(func(n *node.Node) { n.Map, n.Look = affine.Shift(-16384*one, -16384*one), node.FillOf(1, 1, 7) })
	far := scenery.With(func(n *node.Node) { n.Map, n.Look = affine.Shift(16383*one, 16383*one), node.FillOf(1, 1, 9) })
	l := flat.List(scenery.Of(1, 1, n, far))
	if a, b, c := raster.Pixel(l, -16384, -16384), raster.Pixel(l, 16383, 16383), raster.Pixel(l, 0, 0); a != 7 || b != 9 || c != 0 {
		t.Errorf("%08x, %08x, %08x", a, b, c)
	}
}

// P15.1: a scene that shows nothing, of the least sides and of the greatest.
func TestNothing(t *testing.T) {
	for _, side := range [][2]int{{1, 1}, {1, api.MaxSide}, {api.MaxSide, 1}, {api.MaxSide, api.MaxSide}} {
		m := raster.Pix(scenery.Of(side[0], side[1]))
		if m.W != side[0] || m.H != side[1] || m.Check() != api.OK || slices.Max(m.Pixels) != 0 {
			t.Errorf("%v: %d by %d, Check %d", side, m.W, m.H, m.Check())
		}
	}
}

// P15.1: pictures of scenes without a pattern, of sides about those at which they are halved.
func TestScenes(t *testing.T) {
	sides, coloured, seen := []int{1, 2, 3, 7, 8, 9, 15, 16, 17, 23, 31, 33}, 0, 0
	for seed := range uint64(400) {
		next := noise.Numbers(seed)
		s := scenery.Scene(next, sides[next()%12], sides[next()%12], 1+int(seed%20))
		for _, p := range pictured(t, s).Pixels {
			if p != 0 {
				coloured++
			}
			seen++
		}
	}
	if coloured < seen/4 || seen-coloured < seen/4 {
		t.Errorf("%d of %d have a colour", coloured, seen)
	}
}

// P15.1: one scene, changed again and again: its picture hangs on what it is, not on what it was.
func TestChanges(t *testing.T) {
	for seed := range uint64(6) {
		next := noise.Numbers(seed)
		s := scenery.Scene(next, 13, 21, 16)
		for range 60 {
			s.Apply(scenery.Op(next, s))
			pictured(t, s)
		}
	}
}

// P15.1: small things on a great picture, wherever they are: each is a pixel, or a line aslant, or lies on an edge.
func TestSmallThings(t *testing.T) {
	next := noise.Numbers(8)
	for range 20 {
		var l []node.Node
		for range 12 {
			x, y := int64(next()%(120*one)), int64(next()%(90*one))
			l = append(l, scenery.With(func(n *node.Node) { n.Map, n.Look = affine.Shift(x, y), node.FillOf(1, 1, noise.Pixel(next)) }),
				scenery.With(func(n *node.Node) {
					n.Map = affine.Map{A: one, B: int64(next() % one), C: int64(next()%one) - one, D: one, E: x, F: y}
					n.Look = node.FillOf(1+int(next()%100), 1, noise.Pixel(next))
				}))
		}
		l = append(l, scenery.With(func(n *node.Node) { n.Map, n.Look = affine.Shift(119*one, 89*one), node.FillOf(1, 1, 0x77) }))
		if m := pictured(t, scenery.Of(120, 90, l...)); m.At(119, 89)&0xff < 0x77 {
			t.Errorf("%08x in the corner", m.At(119, 89))
		}
	}
}

// P15.1: worlds so great, or so aslant, that the way back's own rounding shows: what is painted is where that tells, not where the world takes the look.
func TestGreatWorlds(t *testing.T) {
	m := image.Image{W: 2, H: 2, Pixels: []pixel.Pixel{0x11, 0x22, 0x33, 0x44}}
	for _, c := range []affine.Map{affine.Scale(11<<24, one), affine.Scale(one, 11<<24), affine.Scale(-11<<24, one), {A: 11 << 24, D: one, E: -2800 * one}, {A: 11 << 22, B: 5 << 22, C: -7 << 22, D: 9 << 22, E: 500 * one, F: 9 * one}, {A: 1 << 30, B: 1<<30 - 1, C: -1 << 30, D: 1 << 30, E: -1 << 30, F: 1 << 29}, {A: 1<<16 + 1, B: 1 << 16, C: 1 << 16, D: 1 << 16}, {A: 4, D: 4}} {
		for _, side := range [][2]int{{4096, 1}, {1, 4096}, {70, 70}} {
			pictured(t, scenery.Of(side[0], side[1],
				scenery.With(func(n *node.Node) { n.Map, n.Look = c, node.FillOf(1, 1, 0x55) }),
				scenery.With(func(n *node.Node) { n.Map, n.Look = c, node.ImageOf(m) }),
				scenery.With(func(n *node.Node) { n.Map, n.Look, n.Opacity = c, node.FillOf(4096, 4096, 0x80ff), 99 }),
				scenery.With(func(n *node.Node) {
					n.Map, n.Look, n.Clipped, n.Clip = c, node.FillOf(4096, 4096, 0x0ff0ff), true, rect.Of(0, 0, 1, 1)
				})))
		}
	}
	// The world takes the edge of the first pixel to 2816, the way back's is at 2849 4/23.
	p := raster.Pix(scenery.Of(4096, 1, scenery.With(func(n *node.Node) { n.Map, n.Look = affine.Scale(11<<24, one), node.FillOf(1, 1, 0x55) })))
	if at := slices.Index(p.Pixels, 0); at != 2849 {
		t.Errorf("up to %d", at)
	}
}

// P15.1: the greatest picture, all of it covered, and one pixel that lies on it.
func TestGreatest(t *testing.T) {
	const side = api.MaxSide
	m := raster.Pix(scenery.Of(side, side,
		scenery.With(func(n *node.Node) { n.Look = node.FillOf(side, side, 0x0000ffff) }),
		scenery.With(func(n *node.Node) {
			n.Map, n.Look = affine.Shift((side-1)*one, (side-1)*one), node.FillOf(side, side, 0x80000080)
		})))
	last := len(m.Pixels) - 1
	if last != side*side-1 || m.Pixels[last] != 0x80007fff {
		t.Fatalf("%d pixels, the last one %08x", last+1, m.Pixels[last])
	}
	for k, p := range m.Pixels[:last] {
		if p != 0x0000ffff {
			t.Fatalf("pixel %d: %08x", k, p)
		}
	}
}

// P15.1: all nodes that there may be, each of one pixel, on a great picture.
func TestMostNodes(t *testing.T) {
	s, _ := scene.New(512, 512, api.MaxNodes)
	place := func(id int) (x, y int) { return id * 7 % 512, id / 128 }
	for id := 1; id < api.MaxNodes; {
		var l []scene.Op
		for ; len(l) < api.MaxOps-2 && id < api.MaxNodes; id++ {
			x, y := place(id)
			l = append(l, scene.Op{Kind: scene.Create, Id: id, Place: id - 1}, scene.Op{Kind: scene.SetMap, Id: id, Map: affine.Shift(int64(x)*one, int64(y)*one)}, scene.Op{Kind: scene.SetLook, Id: id, Look: node.FillOf(1, 1, pixel.Pixel(1+id%255))})
		}
		do(t, s, l...)
	}
	want, _ := image.New(512, 512)
	for id := 1; id < api.MaxNodes; id++ {
		x, y := place(id)
		want.Set(x, y, pixel.Pixel(1+id%255).Over(want.At(x, y)))
	}
	if m := raster.Pix(s); !image.Equal(m, want) {
		t.Error("the picture isn't it")
	}
}

// P15.1: the deepest scene, all clipped, with two of its nodes shown.
func TestDeepest(t *testing.T) {
	s, _ := scene.New(9, 4, api.MaxNodes)
	for id := 1; id < api.MaxNodes; {
		var l []scene.Op
		for ; len(l) < api.MaxOps-2 && id < api.MaxNodes; id++ {
			l = append(l, scene.Op{Kind: scene.Create, Id: id, Parent: id - 1}, scene.Op{Kind: scene.SetClip, Id: id, On: true, Clip: rect.Of(0, 0, 9, 1+id%512)})
		}
		do(t, s, l...)
	}
	do(t, s, scene.Op{Kind: scene.SetLook, Id: 511, Look: node.FillOf(9, 9, 0x20)}, scene.Op{Kind: scene.SetLook, Id: api.MaxNodes - 1, Look: node.FillOf(8, 9, 0xff)})
	// The first clip is of two lines, and those of the ids that 512 divides are of one.
	m := pictured(t, s)
	if m.At(0, 0) != 0xff || m.At(8, 0) != 0x20 || m.At(0, 1) != 0x20 || m.At(8, 1) != 0x20 || m.At(8, 2) != 0 {
		t.Errorf("%08x", m.Pixels)
	}
}

// P1: items that no List told, and pixels of which nothing is promised: all calls end.
func TestAllArguments(t *testing.T) {
	far := []int{0, -1, -16385, 16384, 1 << 31, -1 << 31, 1 << 40, 1 << 62, math.MaxInt, math.MinInt}
	back, _ := affine.Map{A: 1 << 30, B: 3, C: 1 << 30, D: 1<<30 - 1, E: 1 << 30, F: -1 << 30}.Back()
	whole := rect.Rect{X0: math.MinInt, Y0: math.MinInt, X1: math.MaxInt, Y1: math.MaxInt}
	l := []flat.Item{{}, {Opacity: 255, Back: back}}
	for _, look := range []node.Look{{Kind: 7}, {Kind: 1, W: -1, H: 5}, {Kind: 1, W: math.MaxInt, H: math.MaxInt, Color: 0x12345600}, {Kind: 2}, {Kind: 2, Image: image.Image{W: math.MaxInt, H: math.MaxInt, Pixels: []pixel.Pixel{1}}}} {
		for _, opacity := range []int{-1, 255, 256, math.MinInt} {
			l = append(l, flat.Item{Opacity: opacity, Look: look}, flat.Item{Back: back, Opacity: opacity, Look: look, Clips: []flat.Clip{{}, {Back: back, Rect: whole}, {Rect: whole}}})
		}
	}
	for _, x := range far {
		for _, y := range far {
			raster.Pixel(l, x, y)
			m, _ := image.New(30, 30)
			raster.Paint(m, l, rect.Rect{X0: x, Y0: y, X1: 20, Y1: 20}, rect.Rect{X0: 3, Y0: 3, X1: x, Y1: y})
		}
	}
}
