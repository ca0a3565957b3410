package damage_test

import (
	"math"
	"testing"

	"mutoscope/affine"
	"mutoscope/api"
	"mutoscope/damage"
	"mutoscope/flat"
	"mutoscope/image"
	"mutoscope/node"
	"mutoscope/noise"
	"mutoscope/pixel"
	"mutoscope/rect"
	"mutoscope/region"
	"mutoscope/scene"
	"mutoscope/scenery"
	"mutoscope/small"
)

// The calls that the chapter lists, by their signatures.
var (
	_ func(i flat.Item, frame rect.Rect) rect.Rect           = damage.Bound
	_ func(a, b []flat.Item, frame rect.Rect) *region.Region = damage.Between
)

// everywhere leaves all pixels that a clip can.
var everywhere = rect.Of(-16384, -16384, 16384, 16384)

// P16.1: by hand, where the Bound is the least one: that few pixels are painted hangs on this.
func TestBoundByHand(t *testing.T) {
	half := int64(one / 2)
	scaled := affine.Map{A: 3 * one, D: one / 2, E: 10 * one, F: -4 * one}
	turned := affine.Map{B: one, C: -one, E: 5 * one, F: 6 * one} // to the right is down
	for _, c := range []struct {
		m    affine.Map
		w, h int
		clip rect.Rect
		want rect.Rect
	}{
		{affine.One(), 2, 1, everywhere, rect.Of(0, 0, 2, 1)},
		{affine.Shift(one, 0), 2, 1, everywhere, rect.Of(1, 0, 3, 1)},
		{affine.Shift(-7*one, 9*one), 4, 3, everywhere, rect.Of(-7, 9, -3, 12)},
		{affine.Shift(half, half), 2, 2, everywhere, rect.Of(0, 0, 2, 2)},
		{affine.Shift(half-1, half-1), 2, 2, everywhere, rect.Of(0, 0, 2, 2)},
		{affine.Shift(half+1, half+1), 2, 2, everywhere, rect.Of(1, 1, 3, 3)},
		{affine.Shift(-half, -half-1), 2, 2, everywhere, rect.Of(-1, -1, 1, 1)},
		{scaled, 2, 8, everywhere, rect.Of(10, -4, 16, 0)},
		{turned, 4, 2, everywhere, rect.Of(3, 6, 5, 10)},
		{affine.Turn(2), 4, 2, everywhere, rect.Of(-4, -2, 0, 0)},
		{affine.Shift(5*one, 5*one), 4000, 4000, rect.Of(1, 0, 2, 3), rect.Of(6, 5, 7, 8)},
		{affine.Shift(5*one, 5*one), 9, 9, rect.Of(9, 0, 12, 9), rect.Rect{}},
		{affine.Shift(5*one, 5*one), 9, 9, rect.Rect{X0: 3, Y0: 3, X1: 2, Y1: 2}, rect.Rect{}},
		{affine.Shift(40*one, 0), 9, 9, everywhere, rect.Rect{}},
		{affine.Shift(39*one, -8*one), 9, 9, everywhere, rect.Of(39, -8, 40, 1)},
		{affine.Scale(4, 4), 4096, 4096, everywhere, rect.Rect{}},
	} {
		b, _ := bounded(t, item(t, c.m, c.w, c.h, c.clip), rect.Of(-10, -10, 40, 40))
		if b != c.want {
			t.Errorf("%v, %d by %d in %v: %v, not %v", c.m, c.w, c.h, c.clip, b, c.want)
		}
	}
}

// P16.1: an image's size is that of its pixels, and a turned one covers no more than lies about it.
func TestBoundOfLooks(t *testing.T) {
	m := noise.Image(noise.Numbers(1), 3, 5)
	c := int64(46341) // cos 45 degrees
	turned := affine.Map{A: c, B: c, C: -c, D: c, E: 20 * one, F: 2 * one}
	l := flat.List(scenery.Of(40, 40, scenery.With(func(n *node.Node) { n.Map, n.Look = affine.Shift(4*one, 6*one), node.ImageOf(m) }), scenery.Filled(turned, 10, 20)))
	if b, n := bounded(t, l[0], rect.Of(0, 0, 40, 40)); b != rect.Of(4, 6, 7, 11) || n != 15 {
		t.Errorf("an image: %v, of %d", b, n)
	}
	// Its corners are at 20, 2 and 27.07, 9.07 and 5.86, 16.14 and 12.93, 23.21.
	if b, n := bounded(t, l[1], rect.Of(0, 0, 40, 40)); !b.Within(rect.Of(5, 1, 28, 24)) || n < 180 || n > 220 {
		t.Errorf("a turned one: %v, of %d", b, n)
	}
}

// P16.1: each item of scenes without a pattern, in frames that have all of it, and in some of any place.
func TestBoundScenes(t *testing.T) {
	items, all := 0, 0
	for seed := range uint64(400) {
		next := noise.Numbers(seed)
		for _, i := range flat.List(scenery.Scene(next, 12, 12, 1+int(seed%24))) {
			_, n := bounded(t, i, rect.Of(-3, -3, 16, 16))
			items, all = items+1, all+n
			for range 3 {
				x, y := int(next()%20)-5, int(next()%20)-5
				bounded(t, i, rect.Of(x, y, x+1+int(next()%9), y+1+int(next()%9)))
			}
		}
	}
	if items < 2500 || all < 40000 {
		t.Errorf("asked of too few: %d, %d", items, all)
	}
}

// P16.1: each small frame, turned ones and those without pixels among them, of some items.
func TestBoundSmallFrames(t *testing.T) {
	next := noise.Numbers(3)
	l := flat.List(scenery.Of(4, 4, scenery.Filled(affine.One(), 2, 2), scenery.Filled(affine.Shift(one, -one), 9, 3), scenery.Filled(scenery.Map(next, 4), 3, 3), scenery.Filled(affine.Map{A: one, B: one / 2, C: -one / 3, D: one, E: one / 2}, 2, 1)))
	for _, frame := range small.Rects(-2, 4) {
		for _, i := range l {
			bounded(t, i, frame)
		}
	}
}

// P16.1: each small clip, of the node itself, and of one in which it lies, turned ones among them.
func TestBoundSmallClips(t *testing.T) {
	skew := affine.Map{A: one, B: one / 2, C: -one / 3, D: one, E: one / 2}
	for _, r := range small.Rects(-1, 3) {
		for _, m := range []affine.Map{affine.One(), skew} {
			s := scenery.Of(4, 4, scenery.With(func(n *node.Node) { n.Map, n.Clipped, n.Clip = m, true, r }))
			n := scenery.Filled(affine.Shift(-one/2, one/4), 3, 4)
			n.Clipped, n.Clip = true, rect.Of(0, 1, 3, 3)
			do(t, s, scenery.Put(2, 1, 0, n)...)
			bounded(t, flat.List(s)[0], rect.Of(-4, -4, 8, 8))
		}
	}
}

// least is the least Bound's numbers of an item in a frame, held against what Bound tells.
func least(t *testing.T, i flat.Item, frame rect.Rect) (least, b rect.Rect) {
	t.Helper()
	least, b = covered(t, i, frame), formed(t, i, frame)
	if !least.Within(b) {
		t.Fatalf("%v: Bound in %v: %v, without all of %v", i, frame, b, least)
	}
	return least, b
}

// P16.1: worlds as far away, as great and as small as may be, in frames up to the greatest, and at its corners.
func TestBoundFar(t *testing.T) {
	const most = api.MaxFix
	maps := []affine.Map{affine.One(), affine.Shift(most, most), affine.Shift(-most, -most), affine.Shift(most-one, -most), affine.Shift(-16384*one, 16382*one), affine.Scale(4, 4), affine.Scale(-4, 4), affine.Scale(most, most), affine.Scale(-most, most), affine.Scale(7, most), {A: most, D: 4, E: most, F: -most},
		{A: most, B: most, C: -most, D: most, E: most, F: -most}, {A: most, B: most, C: most - 1<<17, D: most, E: 5, F: -7}, {A: 1 << 15, B: 3, C: 3, D: 1<<15 + 1, E: -most, F: most}, {A: 4, D: 4, E: most, F: -most}, {A: 3, B: 50000, C: -50000, D: 11, E: one / 3, F: 12345}, {A: 655361, B: 1, D: 655359, E: -3, F: 3 * one}}
	frames := []rect.Rect{whole, rect.Of(0, 0, 4096, 4096), rect.Of(-16384, -16384, -16383, -16383), rect.Of(16382, 16382, 16383, 16383), rect.Of(-16384, 16382, 16383, 16383), rect.Of(-16384, -16384, -16383, 16383), rect.Of(-100, 5, 2000, 700)}
	some := 0
	for _, m := range maps {
		for _, clip := range []rect.Rect{everywhere, rect.Of(0, 0, 4096, 4096), rect.Of(-1, -1, 1, 1), rect.Of(-16384, -16384, -16383, 16384), rect.Of(4095, 16383, 16384, 16384), rect.Of(3, 4095, 4, 4097)} {
			i := item(t, m, 4096, 4096, clip)
			for _, frame := range frames {
				if l, _ := least(t, i, frame); l != (rect.Rect{}) {
					some++
				}
			}
		}
	}
	if some < 100 {
		t.Errorf("%d are covered", some)
	}
}

// wild is a number of any length of bits, or at a bound.
func wild(next func() uint64) int64 {
	n := int64(next() % (api.MaxFix + 1) >> (next() % 31))
	switch next() % 8 {
	case 0:
		n = api.MaxFix - n%3
	case 1:
		n = one + n%3
	case 2:
		n %= 3
	}
	if next()%2 == 0 {
		return -n
	}
	return n
}

// wildMap is a right map of such numbers, whose shift is seldom the greatest one.
func wildMap(next func() uint64) affine.Map {
	return affine.Map{A: wild(next), B: wild(next), C: wild(next), D: wild(next), E: wild(next) >> (next() % 8), F: wild(next) >> (next() % 8)}
}

// wildItem is an item whose world, and that of a clip about it, has numbers of any length.
func wildItem(next func() uint64) flat.Item {
	for {
		s, _ := scene.New(1, 1, 2)
		side := func() int { return int(next()%16385) >> (next() % 8) }
		n := scenery.Filled(wildMap(next), 1+int(next()%api.MaxSide), 1+int(next()%api.MaxSide))
		n.Clipped, n.Clip = true, rect.Rect{X0: -side(), Y0: -side(), X1: side(), Y1: side()}
		s.Apply(scenery.Set(0, n)...)
		// Where a kid's world can't be, the root has a look itself.
		kid := scenery.Filled(wildMap(next), 1+int(next()%api.MaxSide), 1)
		s.Apply(scenery.Put(1, 0, 0, kid)...)
		if l := flat.List(s); len(l) > 0 {
			return l[len(l)-1]
		}
	}
}

// P16.1: worlds of any numbers, about whose ways back a float is wrong by much among them, in frames about some pixel that is covered.
func TestBoundWild(t *testing.T) {
	next := noise.Numbers(5)
	some, tight := 0, 0
	for range 20000 {
		i := wildItem(next)
		frame := frameAbout(next, i)
		l, b := least(t, i, frame)
		if l != (rect.Rect{}) {
			some++
		}
		if b.Within(l.Grow(1)) {
			tight++
		}
	}
	if some < 8000 || tight < 12000 {
		t.Errorf("of 20000 %d are covered, %d are tight", some, tight)
	}
}

// P16.1: a corner lies right on the centre of a pixel, which is so covered, and in many worlds the one furthest out: a float alone would miss some of these.
func TestBoundCorners(t *testing.T) {
	next := noise.Numbers(6)
	place := func() int { return int(next()%32767) - 16384 }
	for n := 0; n < 20000; {
		x, y := place(), place()
		m := wildMap(next)
		m.E, m.F = int64(x)*one+one/2, int64(y)*one+one/2
		l := flat.List(scenery.Of(1, 1, scenery.Filled(m, 1+int(next()%api.MaxSide), 1+int(next()%api.MaxSide))))
		if len(l) == 0 {
			continue
		}
		n++
		frame := rect.Of(min(x, place()), min(y, place()), x+1, y+1)
		if b := formed(t, l[0], frame); !l[0].Covers(x, y) || !lies(x, y, b) {
			t.Fatalf("%v: Bound in %v: %v, without %d, %d", l[0], frame, b, x, y)
		}
	}
}

// frameAbout is a frame, not too great, if it can be found about a pixel that i covers.
func frameAbout(next func() uint64, i flat.Item) rect.Rect {
	var x, y int
	w, h := i.Look.Size()
	for range 200 {
		p, _ := i.World.Take(affine.Point{X: int64(next() % uint64(w*one)), Y: int64(next() % uint64(h*one))})
		x, y = int(p.X>>16), int(p.Y>>16)
		if i.Covers(x, y) {
			break
		}
	}
	side := func() int { return 1 + int(next()%300)>>(next()%9) }
	return rect.Of(x-side(), y-side(), x+side(), y+side()).Cut(whole)
}

// P1: items that no list told, and frames with any numbers: each call ends.
func TestBoundAllArguments(t *testing.T) {
	for _, i := range odd() {
		for _, frame := range oddFrames() {
			damage.Bound(i, frame)
		}
	}
	// The zero way back takes all pixels to one.
	if b, n := bounded(t, flat.Item{Look: node.FillOf(1, 1, 7)}, rect.Of(-2, -3, 4, 5)); b != rect.Of(-2, -3, 4, 5) || n != 48 {
		t.Errorf("of the zero way back: %v, of %d", b, n)
	}
	// Of frames that have pixels it is within these, whatever the item is.
	for _, i := range odd() {
		for _, frame := range []rect.Rect{whole, rect.Of(0, 0, 1, 1), rect.Of(-5, 3, 9, 4)} {
			formed(t, i, frame)
		}
	}
}

// odd is items that no list told.
func odd() []flat.Item {
	backs := []affine.Back{{}}
	for _, m := range []affine.Map{affine.One(), affine.Scale(4, 4), {A: 1 << 30, B: 3, C: 1 << 30, D: 1<<30 - 1, E: 1 << 30, F: -1 << 30}} {
		b, _ := m.Back()
		backs = append(backs, b)
	}
	far := rect.Rect{X0: math.MinInt, Y0: math.MinInt, X1: math.MaxInt, Y1: math.MaxInt}
	l := []flat.Item{{}}
	for _, look := range []node.Look{{Kind: 7}, {Kind: 1}, {Kind: -1, W: 5, H: 5}, node.FillOf(3, 3, 7), {Kind: 1, W: math.MaxInt, H: math.MaxInt, Color: 0x12345600}, {Kind: 1, W: math.MinInt, H: 4}, {Kind: 2}, {Kind: 2, Image: image.Image{W: math.MaxInt, H: 9, Pixels: []pixel.Pixel{1}}}} {
		for k, b := range backs {
			l = append(l, flat.Item{Id: k, Back: b, Opacity: 300, Look: look}, flat.Item{Id: -k, Back: b, Look: look, Clips: []flat.Clip{{}, {Back: b, Rect: far}, {Rect: far}}}, flat.Item{Id: math.MinInt, Back: b, Look: look, Clips: []flat.Clip{{Back: backs[1], Rect: rect.Rect{X0: math.MaxInt, X1: math.MinInt, Y1: 5}}}})
		}
	}
	return l
}

// oddFrames is frames with numbers past those of which something is promised, among others.
func oddFrames() []rect.Rect {
	var l []rect.Rect
	for _, a := range []int{math.MinInt, -1 << 62, -1 << 40, -16385, 0, 5, 16384, 1 << 31, math.MaxInt} {
		for _, b := range []int{math.MinInt, -1 << 31, -1, 0, 7, 16385, 1 << 62, math.MaxInt} {
			l = append(l, rect.Rect{X0: a, Y0: a, X1: b, Y1: b}, rect.Rect{X0: a, Y0: 0, X1: b, Y1: 9}, rect.Rect{X0: -3, Y0: b, X1: 5, Y1: a})
		}
	}
	return l
}
