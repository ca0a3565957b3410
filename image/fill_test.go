package image_test

import (
	"math"
	"slices"
	"testing"

	"mutoscope/image"
	"mutoscope/noise"
	"mutoscope/pixel"
	"mutoscope/rect"
	"mutoscope/small"
)

// filled fails if Fill of l doesn't do to m what the chapter says, or changes l.
func filled(t *testing.T, m image.Image, p pixel.Pixel, l ...rect.Rect) {
	t.Helper()
	a, given := plainOf(m), slices.Clone(l)
	want := a.fill(p, given)
	if n := m.Fill(p, l...); n != want {
		t.Fatalf("%d by %d: Fill(%08x, %v): %d, not %d", m.W, m.H, p, given, n, want)
	}
	same(t, m, a)
	if !slices.Equal(l, given) {
		t.Fatalf("%v, left of %v", l, given)
	}
}

// P10.2: Fill of each small rectangle, in and about the image, turned and empty ones among them.
func TestFillOfOne(t *testing.T) {
	next := noise.Numbers(11)
	for _, s := range [][2]int{{1, 1}, {1, 3}, {3, 1}, {3, 2}, {4, 4}} {
		for _, r := range small.Rects(-1, 5) {
			filled(t, noise.Image(next, s[0], s[1]), noise.Pixel(next), r)
		}
	}
}

// P10.2: Fill of each two rectangles, which have pixels in common or not: each pixel counts once.
func TestFillOfTwo(t *testing.T) {
	next := noise.Numbers(12)
	l := small.Rects(0, 3)
	m := noise.Image(next, 3, 3)
	for _, r := range l {
		for _, q := range l {
			filled(t, m, noise.Pixel(next), r, q)
		}
	}
}

// P10.2: Fill of any number, in images of any size.
func TestFillOfMany(t *testing.T) {
	next := noise.Numbers(13)
	for range 4000 {
		w, h := 1+int(next()%12), 1+int(next()%12)
		l := make([]rect.Rect, next()%12)
		for k := range l {
			x, y := int(next()%20)-4, int(next()%20)-4
			l[k] = rect.Rect{X0: x, Y0: y, X1: x + int(next()%8) - 1, Y1: y + int(next()%8) - 1}
		}
		filled(t, noise.Image(next, w, h), noise.Pixel(next), l...)
	}
}

// P10.2: Fill of none, of such as have no pixel of the image, and of all of it more than once.
func TestFillByHand(t *testing.T) {
	m := image.Image{W: 3, H: 2, Pixels: []pixel.Pixel{1, 2, 3, 4, 5, 6}}
	for k, c := range []struct {
		l    []rect.Rect
		n    int
		want []pixel.Pixel
	}{
		{nil, 0, []pixel.Pixel{1, 2, 3, 4, 5, 6}},
		{[]rect.Rect{}, 0, []pixel.Pixel{1, 2, 3, 4, 5, 6}},
		{[]rect.Rect{{}, {X0: 1, Y0: 1, X1: 1, Y1: 2}, {X0: 3, Y0: 2, X1: 0, Y1: 0}, {X0: 3, Y0: 0, X1: 0, Y1: 2}, {X0: 0, Y0: 2, X1: 3, Y1: 0}}, 0, []pixel.Pixel{1, 2, 3, 4, 5, 6}},
		{[]rect.Rect{{X0: 3, Y0: 0, X1: 9, Y1: 9}, {X0: 0, Y0: 2, X1: 9, Y1: 9}, {X0: -9, Y0: -9, X1: 0, Y1: 9}, {X0: -9, Y0: -9, X1: 9, Y1: 0}}, 0, []pixel.Pixel{1, 2, 3, 4, 5, 6}},
		{[]rect.Rect{{X0: 1, Y0: 0, X1: 9, Y1: 1}, {X0: 0, Y0: 0, X1: 2, Y1: 1}}, 3, []pixel.Pixel{0xff, 0xff, 0xff, 4, 5, 6}},
		{[]rect.Rect{{X0: 2, Y0: 1, X1: 3, Y1: 2}, {X0: 0, Y0: 0, X1: 1, Y1: 1}}, 2, []pixel.Pixel{0xff, 2, 3, 4, 5, 0xff}},
		{[]rect.Rect{{X0: 0, Y0: 0, X1: 3, Y1: 2}, {X0: 0, Y0: 0, X1: 3, Y1: 2}, {X0: -5, Y0: -5, X1: 5, Y1: 5}}, 6, []pixel.Pixel{0xff, 0xff, 0xff, 0xff, 0xff, 0xff}},
	} {
		b := m.Copy()
		if n := b.Fill(0xff, c.l...); n != c.n || !slices.Equal(b.Pixels, c.want) {
			t.Errorf("%d: Fill(%v): %d, %08x", k, c.l, n, b.Pixels)
		}
		// Pixels that have the colour already are counted, too.
		if n := b.Fill(0xff, c.l...); n != c.n || !slices.Equal(b.Pixels, c.want) {
			t.Errorf("%d: Fill(%v) again: %d, %08x", k, c.l, n, b.Pixels)
		}
	}
	if n := m.Fill(0, m.Frame()); n != 6 || !slices.Equal(m.Pixels, make([]pixel.Pixel, 6)) {
		t.Errorf("Fill(0): %d, %08x", n, m.Pixels)
	}
}

// Fill of a pixel that isn't right, or of an image that isn't, does nothing: what is wrong doesn't spread.
func TestFillOfWrong(t *testing.T) {
	m := noise.Image(noise.Numbers(14), 3, 3)
	a := plainOf(m)
	for _, p := range wrongPixels() {
		if n := m.Fill(p, m.Frame(), rect.Of(1, 1, 2, 2)); n != 0 {
			t.Errorf("Fill(%08x): %d", p, n)
		}
	}
	same(t, m, a)
	for _, m := range []image.Image{{W: 1, H: 1}, {W: 2, H: 2, Pixels: make([]pixel.Pixel, 3)}, {W: 1, H: 1, Pixels: make([]pixel.Pixel, 2)}, {W: -1, H: -1, Pixels: make([]pixel.Pixel, 1)}, {W: 4097, H: 1, Pixels: make([]pixel.Pixel, 4097)}} {
		if n := m.Fill(0xff, m.Frame(), rect.Of(0, 0, 9, 9)); n != 0 || slices.Contains(m.Pixels, 0xff) {
			t.Errorf("%d by %d, %d pixels: Fill %d", m.W, m.H, len(m.Pixels), n)
		}
	}
}

// P10.2: rectangles up to the bounds of all numbers, and past them.
func TestFillOfGreatNumbers(t *testing.T) {
	far := []int{math.MinInt, math.MinInt + 1, -1 << 62, -1 << 40, -1 << 32, -1, 0, 1, 2, 3, 1 << 31, 1 << 32, 1 << 40, 1 << 62, math.MaxInt - 1, math.MaxInt}
	next := noise.Numbers(15)
	one := func() int { return far[next()%uint64(len(far))] }
	m := noise.Image(next, 3, 2)
	for range 20000 {
		l := make([]rect.Rect, 1+next()%3)
		for k := range l {
			l[k] = rect.Rect{X0: one(), Y0: one(), X1: one(), Y1: one()}
		}
		filled(t, m, noise.Pixel(next), l...)
	}
}

// P10.2: a chessboard, stripes that lie across one another, and a hole, in a larger image.
func TestFillOfPatterns(t *testing.T) {
	const side = 60
	var board, stripes []rect.Rect
	for k := range side {
		stripes = append(stripes, rect.Of(3*k, -1, 3*k+1, side), rect.Of(0, 3*k, side+9, 3*k+2))
		for x := k % 2; x < side; x += 2 {
			board = append(board, rect.Of(x, k, x+1, k+1))
		}
	}
	hole := []rect.Rect{rect.Of(0, 0, side, 20), rect.Of(0, 40, side, side), rect.Of(0, 0, 20, side), rect.Of(40, 0, side, side)}
	for _, l := range [][]rect.Rect{board, stripes, hole, slices.Concat(board, hole), slices.Concat(stripes, board)} {
		filled(t, noise.Image(noise.Numbers(16), side, side), 0x123456ff, l...)
		slices.Reverse(l)
		filled(t, noise.Image(noise.Numbers(17), side, side), 0x123456ff, l...)
	}
}

// P1: very many rectangles, one over the other, on a great image end soon: painted one by one they would be 2^43 pixels.
func TestFillOfVeryMany(t *testing.T) {
	m, _ := image.New(4096, 4096)
	l := make([]rect.Rect, 1<<20)
	for k := range l {
		l[k] = rect.Of(k%1000, k/1000%1000, 4096-k%999, 4096-k%997)
	}
	l = slices.DeleteFunc(l, func(r rect.Rect) bool { return r.X0 == 0 && r.Y0 == 0 })
	if n := m.Fill(0xff, l...); n != 4096*4096-1 || m.At(0, 0) != 0 || m.At(1, 0) != 0xff || m.At(0, 1) != 0xff || m.At(4095, 4095) != 0xff {
		t.Errorf("Fill: %d", n)
	}
}
