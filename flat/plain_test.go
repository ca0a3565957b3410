package flat_test

import (
	"math"
	"slices"
	"testing"

	"mutoscope/affine"
	"mutoscope/api"
	"mutoscope/flat"
	"mutoscope/node"
	"mutoscope/pixel"
	"mutoscope/rect"
	"mutoscope/scene"
	"mutoscope/scenery"
)

const one = api.One

// plainList is the items of s by the chapter's words: each node's are reckoned anew, from all those in which it lies.
func plainList(s *scene.Scene) []flat.Item {
	var l []flat.Item
	plainWalk(s, []int{0}, func(way []int) {
		if i, ok := plainItem(s, way); ok {
			l = append(l, i)
		}
	})
	return l
}

// plainWalk calls f with the way from the root to each node, as the tree is walked.
func plainWalk(s *scene.Scene, way []int, f func(way []int)) {
	f(way)
	for _, kid := range s.Kids(way[len(way)-1]) {
		plainWalk(s, append(slices.Clone(way), kid), f)
	}
}

// plainItem is the item of the last node of a way from the root, and whether there is one.
func plainItem(s *scene.Scene, way []int) (flat.Item, bool) {
	i := flat.Item{Id: way[len(way)-1]}
	for k, id := range way {
		n, _ := s.Node(id)
		w, _ := s.World(id)
		b, e := w.Back()
		if n.Hidden || e != api.OK {
			return i, false
		}
		if n.Clipped {
			i.Clips = append(i.Clips, flat.Clip{Back: b, Rect: n.Clip})
		}
		if k == 0 {
			i.Opacity = n.Opacity
		} else {
			i.Opacity = plainBy(i.Opacity, n.Opacity)
		}
		i.World, i.Back, i.Look = w, b, n.Look
	}
	return i, i.Opacity != 0 && i.Look.Kind != 0
}

// plainBy is p q / 255, rounded to the nearest whole number.
func plainBy(p, q int) int {
	return int(math.Round(float64(p*q) / 255))
}

// plainPoint is the centre of a pixel.
func plainPoint(x, y int) affine.Point {
	return affine.Point{X: int64(math.Round((float64(x) + 0.5) * 65536)), Y: int64(math.Round((float64(y) + 0.5) * 65536))}
}

// plainPixel is where the centre of a pixel lies, taken back.
func plainPixel(b affine.Back, x, y int) (int, int) {
	p := b.Take(plainPoint(x, y))
	return int(math.Floor(float64(p.X) / 65536)), int(math.Floor(float64(p.Y) / 65536))
}

// plainCovers is what Covers tells.
func plainCovers(i flat.Item, x, y int) bool {
	return plainClips(i, x, y) && plainColour(i, x, y) >= 0
}

func plainClips(i flat.Item, x, y int) bool {
	for _, c := range i.Clips {
		u, v := plainPixel(c.Back, x, y)
		if u < c.Rect.X0 || u >= c.Rect.X1 || v < c.Rect.Y0 || v >= c.Rect.Y1 {
			return false
		}
	}
	return true
}

// plainColour is the look's own colour where the centre of a pixel lies, or -1, if it has no such pixel.
func plainColour(i flat.Item, x, y int) int {
	u, v := plainPixel(i.Back, x, y)
	w, h := i.Look.W, i.Look.H
	if i.Look.Kind == 2 {
		w, h = i.Look.Image.W, i.Look.Image.H
	}
	if u < 0 || u >= w || v < 0 || v >= h {
		return -1
	}
	if i.Look.Kind == 2 {
		return int(i.Look.Image.Pixels[v*w+u])
	}
	return int(i.Look.Color)
}

// plainAt is what At tells.
func plainAt(i flat.Item, x, y int) pixel.Pixel {
	c := plainColour(i, x, y)
	if c < 0 || !plainClips(i, x, y) {
		return 0
	}
	p := 0
	for k := 24; k >= 0; k -= 8 {
		p = p<<8 + plainBy(c>>k%256, i.Opacity)
	}
	return pixel.Pixel(p)
}

// same is whether all of both items is the same; nil and empty lists are one.
func same(a, b flat.Item) bool {
	return a.Id == b.Id && a.World == b.World && a.Back == b.Back && slices.Equal(a.Clips, b.Clips) && a.Opacity == b.Opacity && sameLook(a.Look, b.Look)
}

func sameLook(a, b node.Look) bool {
	return a.Kind == b.Kind && a.W == b.W && a.H == b.H && a.Color == b.Color && a.Image.W == b.Image.W && a.Image.H == b.Image.H && slices.Equal(a.Image.Pixels, b.Image.Pixels)
}

// listed is what List tells of s, after it was held against the chapter's words.
func listed(t *testing.T, s *scene.Scene) []flat.Item {
	t.Helper()
	l, want := flat.List(s), plainList(s)
	if !slices.EqualFunc(l, want, same) {
		t.Fatalf("List: %v, not %v", l, want)
	}
	return l
}

// asked fails if items tell of the pixels of r anything else than the chapter's words; how many of these are covered, and how many have a colour.
func asked(t *testing.T, l []flat.Item, r rect.Rect) (covered, coloured int) {
	t.Helper()
	for _, i := range l {
		for y := r.Y0; y < r.Y1; y++ {
			for x := r.X0; x < r.X1; x++ {
				p, c := i.At(x, y), i.Covers(x, y)
				if want, is := plainAt(i, x, y), plainCovers(i, x, y); p != want || c != is {
					t.Fatalf("%v: At(%d, %d) %08x, %v, not %08x, %v", i, x, y, p, c, want, is)
				}
				if c {
					covered++
				}
				if p != 0 {
					coloured++
				}
			}
		}
	}
	return covered, coloured
}

// made is a scene of these nodes, each one the kid of the one ahead of it, from the root on.
func made(t *testing.T, l ...node.Node) *scene.Scene {
	t.Helper()
	s, _ := scene.New(8, 8, api.MaxNodes)
	for id, n := range l {
		if id > 0 {
			do(t, s, scene.Op{Kind: scene.Create, Id: id, Parent: id - 1})
		}
		do(t, s, scenery.Set(id, n)...)
	}
	return s
}

func do(t *testing.T, s *scene.Scene, l ...scene.Op) {
	t.Helper()
	if at, e := s.Apply(l...); at != len(l) || e != api.OK {
		t.Fatalf("Apply %v: %d, %d", l, at, e)
	}
}

// clipped is a bare node, clipped to r.
func clipped(m affine.Map, r rect.Rect) node.Node {
	return scenery.With(func(n *node.Node) { n.Map, n.Clipped, n.Clip = m, true, r })
}
