package damage_test

import (
	"slices"
	"sort"
	"testing"

	"mutoscope/affine"
	"mutoscope/api"
	"mutoscope/damage"
	"mutoscope/flat"
	"mutoscope/raster"
	"mutoscope/rect"
	"mutoscope/region"
	"mutoscope/scene"
	"mutoscope/scenery"
)

const one = api.One

// whole is the greatest frame of which something is promised.
var whole = rect.Of(-16384, -16384, 16383, 16383)

// lies is whether r has the pixel, by layer 6's words.
func lies(x, y int, r rect.Rect) bool {
	return r.X0 <= x && x < r.X1 && r.Y0 <= y && y < r.Y1
}

// bounded is what Bound tells, after it was held against the chapter's words at each pixel of the frame; how many of these are covered.
func bounded(t *testing.T, i flat.Item, frame rect.Rect) (b rect.Rect, covered int) {
	t.Helper()
	b = formed(t, i, frame)
	for y := frame.Y0; y < frame.Y1; y++ {
		for x := frame.X0; x < frame.X1; x++ {
			if !i.Covers(x, y) {
				continue
			}
			covered++
			if !lies(x, y, b) {
				t.Fatalf("%v: Bound in %v: %v, without %d, %d", i, frame, b, x, y)
			}
		}
	}
	return b, covered
}

// formed is what Bound tells, after its form was held against the chapter's words: of a pixel at least within the frame, or of noughts.
func formed(t *testing.T, i flat.Item, frame rect.Rect) rect.Rect {
	t.Helper()
	b := damage.Bound(i, frame)
	if b != (rect.Rect{}) && (b.X0 >= b.X1 || b.Y0 >= b.Y1 || b.X0 < frame.X0 || b.Y0 < frame.Y0 || b.X1 > frame.X1 || b.Y1 > frame.Y1) {
		t.Fatalf("%v: Bound in %v: %v", i, frame, b)
	}
	return b
}

// covered is the least rectangle of the frame that has all pixels which i covers. It goes column by column, as frames are great.
func covered(t *testing.T, i flat.Item, frame rect.Rect) rect.Rect {
	t.Helper()
	w, h := i.Look.Size()
	clips := append([]flat.Clip{{Back: i.Back, Rect: rect.Of(0, 0, w, h)}}, i.Clips...)
	var b rect.Rect
	for x := frame.X0; x < frame.X1; x++ {
		y0, y1 := frame.Y0, frame.Y1
		for _, c := range clips {
			u0, u1 := run(func(y int) int { return int(c.Back.Take(flat.Centre(x, y)).X >> 16) }, frame, c.Rect.X0, c.Rect.X1)
			v0, v1 := run(func(y int) int { return int(c.Back.Take(flat.Centre(x, y)).Y >> 16) }, frame, c.Rect.Y0, c.Rect.Y1)
			y0, y1 = max(y0, u0, v0), min(y1, u1, v1)
		}
		if y0 >= y1 {
			continue
		}
		if !i.Covers(x, y0) || !i.Covers(x, y1-1) || y0 > frame.Y0 && i.Covers(x, y0-1) || y1 < frame.Y1 && i.Covers(x, y1) {
			t.Fatalf("%v: the column %d isn't covered from %d to %d", i, x, y0, y1)
		}
		b = b.Join(rect.Of(x, y0, x+1, y1))
	}
	return b
}

// run is the row of the frame's y for which f, that rises or falls, is from low to below high.
func run(f func(y int) int, frame rect.Rect, low, high int) (from, to int) {
	first := func(is func(n int) bool) int {
		return frame.Y0 + sort.Search(frame.Y1-frame.Y0, func(k int) bool { return is(f(frame.Y0 + k)) })
	}
	if f(frame.Y0) <= f(frame.Y1-1) {
		return first(func(n int) bool { return n >= low }), first(func(n int) bool { return n >= high })
	}
	return first(func(n int) bool { return n < high }), first(func(n int) bool { return n < low })
}

// had is what Between tells, after it was held against the chapter's words at each pixel of the frame; how many pixels differ, and how many of the frame it has.
func had(t *testing.T, a, b []flat.Item, frame rect.Rect) (g *region.Region, differ, has int) {
	t.Helper()
	g = damage.Between(a, b, frame)
	may := allowed(a, b, frame)
	for y := frame.Y0; y < frame.Y1; y++ {
		for x := frame.X0; x < frame.X1; x++ {
			is, other := g.Has(x, y), raster.Pixel(a, x, y) != raster.Pixel(b, x, y)
			if other && !is {
				t.Fatalf("%v, %v, in %v: without %d, %d", a, b, frame, x, y)
			}
			if is && !may(x, y) {
				t.Fatalf("%v, %v, in %v: has %d, %d", a, b, frame, x, y)
			}
			if other {
				differ++
			}
			if is {
				has++
			}
		}
	}
	if g.Area() != has {
		t.Fatalf("%v, %v, in %v: Area %d, not %d", a, b, frame, g.Area(), has)
	}
	g.Add(rect.Of(-1<<30, -1<<30, 1<<30, 1<<30))
	if all := rect.Of(frame.X0, frame.Y0, frame.X1, frame.Y1); g.Bound() != all {
		t.Fatalf("in %v: the frame is %v", frame, g.Bound())
	}
	return damage.Between(a, b, frame), differ, has
}

// allowed is where P16.2 lets a damage be: in a Bound of what only one list has, or in both of two that are turned round.
func allowed(a, b []flat.Item, frame rect.Rect) func(x, y int) bool {
	at := func(l []flat.Item, i flat.Item) int {
		return slices.IndexFunc(l, func(j flat.Item) bool { return flat.Equal(i, j) })
	}
	var l []rect.Rect
	for k, i := range a {
		if at(b, i) < 0 {
			l = append(l, damage.Bound(i, frame))
			continue
		}
		for _, j := range a[k+1:] {
			if n := at(b, j); n >= 0 && n < at(b, i) {
				l = append(l, damage.Bound(i, frame).Cut(damage.Bound(j, frame)))
			}
		}
	}
	for _, i := range b {
		if at(a, i) < 0 {
			l = append(l, damage.Bound(i, frame))
		}
	}
	return func(x, y int) bool {
		return slices.ContainsFunc(l, func(r rect.Rect) bool { return lies(x, y, r) })
	}
}

func do(t *testing.T, s *scene.Scene, l ...scene.Op) {
	t.Helper()
	if at, e := s.Apply(l...); at != len(l) || e != api.OK {
		t.Fatalf("Apply %v: %d, %d", l, at, e)
	}
}

// item is the item of a node of that map in the root, that is a fill of w by h, clipped to clip.
func item(t *testing.T, m affine.Map, w, h int, clip rect.Rect) flat.Item {
	t.Helper()
	n := scenery.Filled(m, w, h)
	n.Clipped, n.Clip = true, clip
	l := flat.List(scenery.Of(1, 1, n))
	if len(l) != 1 {
		t.Fatalf("%v isn't shown", m)
	}
	return l[0]
}
