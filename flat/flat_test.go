package flat_test

import (
	"math"
	"testing"

	"mutoscope/affine"
	"mutoscope/flat"
	"mutoscope/image"
	"mutoscope/node"
	"mutoscope/noise"
	"mutoscope/pixel"
	"mutoscope/rect"
	"mutoscope/scene"
	"mutoscope/scenery"
	"mutoscope/small"
)

// The calls and types that the chapter lists, by their signatures.
var (
	_ func(x, y int) affine.Point             = flat.Centre
	_ func(s *scene.Scene) []flat.Item        = flat.List
	_ func(i flat.Item, x, y int) pixel.Pixel = flat.Item.At
	_ func(i flat.Item, x, y int) bool        = flat.Item.Covers
	_ func(a, b flat.Item) bool               = flat.Equal
	_ struct {
		Back affine.Back
		Rect rect.Rect
	} = flat.Clip{}
	_ struct {
		Id      int
		World   affine.Map
		Back    affine.Back
		Clips   []flat.Clip
		Opacity int
		Look    node.Look
	} = flat.Item{}
)

// P14.1, P14.2: the chapter's example.
func TestExample(t *testing.T) {
	l := listed(t, made(t, scenery.Filled(affine.Shift(one, 0), 2, 1)))
	if len(l) != 1 {
		t.Fatalf("%d items", len(l))
	}
	for y := -3; y <= 3; y++ {
		for x := -3; x <= 5; x++ {
			in, p := y == 0 && (x == 1 || x == 2), pixel.Pixel(0)
			if in {
				p = 0xff
			}
			if l[0].Covers(x, y) != in || l[0].At(x, y) != p {
				t.Errorf("%d, %d: %v, %08x", x, y, l[0].Covers(x, y), l[0].At(x, y))
			}
		}
	}
}

// P14.1: Centre of each two numbers at their bounds and between.
func TestCentre(t *testing.T) {
	l := []int{-16384, -16383, -257, -256, -2, -1, 0, 1, 2, 255, 256, 4095, 4096, 16382, 16383}
	for _, x := range l {
		for _, y := range l {
			if p := flat.Centre(x, y); p != plainPoint(x, y) || p.X-32768 != int64(x)*65536 || p.Y-32768 != int64(y)*65536 {
				t.Errorf("Centre(%d, %d): %v", x, y, p)
			}
		}
	}
}

// P14.2: At and Covers by hand: what is cut is cut in its own node's numbers, and what covers may have no colour.
func TestItemsByHand(t *testing.T) {
	m := image.Image{W: 2, H: 1, Pixels: []pixel.Pixel{0, 0xff0000ff}}
	turned := affine.Map{B: 2 * one, C: -2 * one, E: 4 * one} // twice as great, to the right is down
	s := made(t,
		clipped(affine.Shift(one, one), rect.Of(-1, 0, 3, 3)),
		scenery.With(func(n *node.Node) { n.Map, n.Look, n.Opacity = turned, node.ImageOf(m), 128 }),
		scenery.With(func(n *node.Node) { n.Look, n.Opacity = node.FillOf(2, 2, 0x000000ff), 1 }),
		scenery.With(func(n *node.Node) {
			n.Look, n.Opacity, n.Clipped, n.Clip = node.FillOf(2, 1, 0x40ff), 128, true, rect.Of(1, 0, 2, 1)
		}))
	l := listed(t, s)
	if len(l) != 3 || l[0].Opacity != 128 || l[1].Opacity != 1 || l[2].Opacity != 1 || len(l[1].Clips) != 1 || len(l[2].Clips) != 2 {
		t.Fatalf("List: %v", l)
	}
	for _, c := range []struct {
		item, x, y int
		p          pixel.Pixel
		covers     bool
	}{
		{0, 3, 1, 0, true}, {0, 3, 2, 0, true}, {0, 3, 3, 0x80000080, true}, {0, 4, 1, 0, false}, {0, 4, 3, 0, false}, {0, 3, 4, 0, false}, {0, 2, 3, 0, false}, {0, 3, 0, 0, false},
		{1, 3, 1, 1, true}, {1, 2, 1, 1, true}, {1, 1, 1, 1, true}, {1, 0, 1, 0, false}, {1, 3, 3, 1, true}, {1, 3, 4, 0, false}, {1, 4, 1, 0, false},
		{2, 3, 3, 1, true}, {2, 3, 2, 0, false}, {2, 3, 1, 0, false}, {2, 2, 3, 0, false}, {2, 4, 3, 0, false},
	} {
		if p, covers := l[c.item].At(c.x, c.y), l[c.item].Covers(c.x, c.y); p != c.p || covers != c.covers {
			t.Errorf("item %d at %d, %d: %08x, %v, not %08x, %v", c.item, c.x, c.y, p, covers, c.p, c.covers)
		}
	}
	asked(t, l, rect.Of(-6, -6, 9, 9))
}

// P14.2: a pixel is where its centre is: edges that go through the middle of pixels, and one step beside it, on all four sides.
func TestEdges(t *testing.T) {
	for _, at := range []struct {
		e      int64
		x0, x1 int
	}{{one / 2, 0, 2}, {one/2 - 1, 0, 2}, {one/2 + 1, 1, 3}, {-one / 2, -1, 1}, {-one/2 + 1, 0, 2}, {-one/2 - 1, -1, 1}, {one - 1, 1, 3}, {1, 0, 2}, {-1, 0, 2}} {
		for _, n := range [][]node.Node{
			{scenery.Filled(affine.Shift(at.e, 0), 2, 9)},
			{clipped(affine.Shift(at.e, 0), rect.Of(0, 0, 2, 9)), scenery.Filled(affine.Shift(-at.e-4*one, 0), 16, 9)},
		} {
			l := listed(t, made(t, n...))
			for x := -4; x < 8; x++ {
				if in := at.x0 <= x && x < at.x1; len(l) != 1 || l[0].Covers(x, 0) != in || l[0].Covers(x, 9) || l[0].Covers(x, -1) {
					t.Errorf("from %d on: at %d %v", at.e, x, l)
				}
			}
		}
		l := listed(t, made(t, scenery.Filled(affine.Shift(0, at.e), 9, 2)))
		for y := -4; y < 8; y++ {
			if in := at.x0 <= y && y < at.x1; len(l) != 1 || l[0].Covers(0, y) != in {
				t.Errorf("from %d down: at %d %v", at.e, y, l)
			}
		}
	}
}

// P14.2: each small clip, turned ones among them, that are told as they are, and leave nothing.
func TestClips(t *testing.T) {
	for _, r := range small.Rects(-1, 2) {
		s := made(t, clipped(affine.Shift(0, one), r), scenery.Filled(affine.Shift(-one, -one), 3, 3))
		l := listed(t, s)
		if len(l) != 1 || len(l[0].Clips) != 1 || l[0].Clips[0].Rect != r {
			t.Fatalf("%v: %v", r, l)
		}
		want := r.Cut(rect.Of(-1, -1, 2, 2)).Area()
		if covered, coloured := asked(t, l, rect.Of(-3, -3, 5, 5)); covered != want || coloured != want {
			t.Errorf("%v: %d, %d, not %d", r, covered, coloured, want)
		}
	}
}

// P14.2: each opacity that an item can have, by each of some colours.
func TestOpacities(t *testing.T) {
	next := noise.Numbers(1)
	for o := 1; o < 256; o++ {
		m := noise.Image(next, 4, 4)
		l := listed(t, made(t, scenery.With(func(n *node.Node) { n.Opacity, n.Look = o, node.ImageOf(m) })))
		if covered, _ := asked(t, l, rect.Of(-1, -1, 5, 5)); covered != 16 {
			t.Fatalf("%d: %d are covered", o, covered)
		}
	}
}

// P14.2: pixels at their bounds, and worlds that are as far away, as great and as small as may be.
func TestFarPixels(t *testing.T) {
	maps := []affine.Map{affine.One(), affine.Shift(1<<30, 1<<30), affine.Shift(-1<<30, -1<<30), affine.Shift(1<<30-one, -1<<30), affine.Scale(4, 4), affine.Scale(-4, 4), affine.Scale(1<<30, 1<<30), affine.Scale(-1<<30, 1<<30),
		{A: 1 << 30, B: 1 << 30, C: -1 << 30, D: 1 << 30, E: 1 << 30, F: -1 << 30}, {A: 1 << 15, B: 3, C: 3, D: 1<<15 + 1, E: -1 << 30, F: 1 << 30}, {A: 4, B: 0, C: 0, D: 4, E: 1 << 30, F: -1 << 30}}
	places, covered := []int{-16384, -16383, -8192, -1, 0, 1, 4095, 4096, 8191, 16382, 16383}, 0
	for _, m := range maps {
		for _, r := range []rect.Rect{rect.Of(-16384, -16384, 16384, 16384), rect.Of(0, 0, 4096, 4096), rect.Of(-1, -1, 1, 1), rect.Of(-16384, -16384, -16383, 16384)} {
			n := scenery.Filled(m, 4096, 4096)
			n.Clipped, n.Clip = true, r
			l := listed(t, made(t, n))
			if len(l) != 1 {
				t.Fatalf("%v: %v", m, l)
			}
			for _, x := range places {
				for _, y := range places {
					c, _ := asked(t, l, rect.Of(x, y, x+1, y+1))
					covered += c
				}
			}
		}
	}
	if covered < 100 {
		t.Errorf("asked of too few: %d", covered)
	}
}

// P14.1, P14.2: scenes without a pattern, each item at each pixel of the frame and about it.
func TestScenes(t *testing.T) {
	items, covered, coloured := 0, 0, 0
	for seed := range uint64(150) {
		l := listed(t, scenery.Scene(noise.Numbers(seed), 10, 10, 1+int(seed%20)))
		c, p := asked(t, l, rect.Of(-3, -3, 13, 13))
		items, covered, coloured = items+len(l), covered+c, coloured+p
	}
	if items < 700 || covered < 8000 || coloured < 6000 || covered-coloured < 2000 {
		t.Errorf("asked of too few: %d, %d, %d", items, covered, coloured)
	}
}

// P1: of pixels of which nothing is promised, and of items that no List told, all calls end.
func TestAllArguments(t *testing.T) {
	far := []int{0, -1, -16385, 16384, 1 << 31, -1 << 31, 1 << 40, 1 << 62, math.MaxInt, math.MinInt}
	l := listed(t, scenery.Scene(noise.Numbers(5), 10, 10, 30))
	l = append(l, flat.Item{})
	for _, look := range []node.Look{{Kind: 7}, {Kind: -1, W: 5, H: 5}, {Kind: 1}, {Kind: 1, W: math.MaxInt, H: math.MaxInt, Color: 0x12345600}, {Kind: 2}, {Kind: 2, Image: image.Image{W: 9, H: 9}}, {Kind: 2, Image: image.Image{W: math.MaxInt, H: math.MaxInt, Pixels: []pixel.Pixel{1}}}, {Kind: 2, Image: image.Image{W: -1, H: -1, Pixels: []pixel.Pixel{1}}}} {
		for _, opacity := range []int{-1, 0, 255, 256, math.MaxInt, math.MinInt} {
			l = append(l, flat.Item{Opacity: opacity, Look: look}, flat.Item{Opacity: opacity, Look: look, Clips: []flat.Clip{{Rect: rect.Rect{X0: math.MinInt, Y0: math.MinInt, X1: math.MaxInt, Y1: math.MaxInt}}}})
			b, _ := affine.Map{A: 1 << 30, B: 3, C: 1 << 30, D: 1<<30 - 1, E: 1 << 30, F: -1 << 30}.Back()
			l = append(l, flat.Item{Back: b, Opacity: opacity, Look: look, Clips: []flat.Clip{{}, {Back: b, Rect: rect.Of(0, 0, 9, 9)}}})
		}
	}
	for _, x := range far {
		for _, y := range far {
			flat.Centre(x, y)
			for _, i := range l {
				i.At(x, y)
				i.Covers(x, y)
			}
		}
	}
	for _, i := range l {
		for _, j := range l {
			flat.Equal(i, j)
		}
	}
}
