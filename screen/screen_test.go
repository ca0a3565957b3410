package screen_test

import (
	"math"
	"reflect"
	"slices"
	"testing"

	"mutoscope/affine"
	"mutoscope/api"
	"mutoscope/image"
	"mutoscope/node"
	"mutoscope/noise"
	"mutoscope/pixel"
	"mutoscope/raster"
	"mutoscope/rect"
	"mutoscope/scene"
	"mutoscope/scenery"
	"mutoscope/screen"
)

// The calls that the chapter lists, by their signatures.
var (
	_ func(w, h int) (*screen.Screen, api.Errno)   = screen.New
	_ func(s *screen.Screen, z *scene.Scene) int   = (*screen.Screen).Show
	_ func(s *screen.Screen) image.Image           = (*screen.Screen).Image
	_ func(s *screen.Screen) *screen.Screen        = (*screen.Screen).Copy
	_ func(s *screen.Screen, x, y int) pixel.Pixel = (*screen.Screen).At
	_ func(s *screen.Screen) rect.Rect             = (*screen.Screen).Frame
	_ func(s *screen.Screen) uint32                = (*screen.Screen).Sum
)

// Of its image's calls a screen has those that ask, and not those by which it would show something else than its items.
func TestCalls(t *testing.T) {
	var names []string
	x := reflect.TypeFor[*screen.Screen]()
	for k := range x.NumMethod() {
		names = append(names, x.Method(k).Name)
	}
	if want := []string{"At", "Copy", "Frame", "Image", "Show", "Sum"}; !slices.Equal(names, want) {
		t.Errorf("%v, not %v", names, want)
	}
	for k := range x.Elem().NumField() {
		if f := x.Elem().Field(k); f.IsExported() {
			t.Errorf("a field %s", f.Name)
		}
	}
}

// P17.1: New of sides at their bounds, and past them.
func TestNew(t *testing.T) {
	numbers := []int{1, 2, 4095, 4096, 0, 4097, -1, 1 << 31, 1 << 32, 1<<32 + 1, -1 << 32, math.MaxInt, math.MinInt}
	for j, w := range numbers {
		for k, h := range numbers {
			s, e := screen.New(w, h)
			if j > 3 || k > 3 {
				if s != nil || e != api.ErrRange {
					t.Errorf("New(%d, %d): %d", w, h, e)
				}
				continue
			}
			m := s.Image()
			if e != api.OK || m.W != w || m.H != h || len(m.Pixels) != w*h || slices.Max(m.Pixels) != 0 || s.Frame() != rect.Of(0, 0, w, h) {
				t.Errorf("New(%d, %d): %d, %d by %d, %v", w, h, e, m.W, m.H, s.Frame())
			}
			if j < 2 && k < 2 {
				made(t, w, h)
			}
		}
	}
}

// P17.1, P17.2: the chapter's example: of the greatest screen one pixel is painted.
func TestExample(t *testing.T) {
	s, e := screen.New(api.MaxSide, api.MaxSide)
	z := scenery.Of(api.MaxSide, api.MaxSide, fill(4000, 70, 1, 1, 0xff))
	if n := s.Show(z); e != api.OK || n != 1 || s.At(4000, 70) != 0xff {
		t.Fatalf("Show: %d, %08x", n, s.At(4000, 70))
	}
	if m := s.Image(); !image.Equal(m, raster.Pix(z)) || s.Sum() != m.Sum() {
		t.Error("it isn't the picture")
	}
}

// P17.1, P17.2: by hand: what comes, goes, moves, has another colour, is turned round, is hidden, or is cut.
func TestShowByHand(t *testing.T) {
	const a, b, ab, ba = 0xff0000ff, 0x00800080, 0x7f8000ff, 0xff0000ff
	s, p := made(t, 6, 1)
	z := scenery.Of(6, 1)
	if n := shown(t, s, p, z); n != 0 {
		t.Errorf("of nothing: %d", n)
	}
	for k, c := range []struct {
		ops  []scene.Op
		n    int
		want []pixel.Pixel
	}{
		{scenery.Put(1, 0, 0, fill(0, 0, 3, 1, a)), 3, []pixel.Pixel{a, a, a, 0, 0, 0}},
		{scenery.Put(2, 0, 1, fill(2, 0, 2, 1, b)), 2, []pixel.Pixel{a, a, ab, b, 0, 0}},
		{[]scene.Op{{Kind: scene.Move, Id: 1, Place: 1}}, 1, []pixel.Pixel{a, a, ba, b, 0, 0}},
		{[]scene.Op{moved(2, 4, 0)}, 4, []pixel.Pixel{a, a, a, 0, b, b}},
		{[]scene.Op{moved(0, -1, 0)}, 6, []pixel.Pixel{a, a, 0, b, b, 0}},
		{[]scene.Op{moved(0, 0, 0), {Kind: scene.SetHidden, Id: 2, On: true}}, 5, []pixel.Pixel{a, a, a, 0, 0, 0}},
		{[]scene.Op{{Kind: scene.SetHidden, Id: 2}, {Kind: scene.SetOpacity, Id: 1, N: 0}}, 5, []pixel.Pixel{0, 0, 0, 0, b, b}},
		{[]scene.Op{{Kind: scene.SetOpacity, Id: 1, N: 255}, {Kind: scene.SetClip, Id: 1, On: true, Clip: rect.Of(1, 0, 2, 1)}}, 1, []pixel.Pixel{0, a, 0, 0, b, b}},
		{[]scene.Op{{Kind: scene.SetLook, Id: 2, Look: node.FillOf(1, 1, a)}}, 2, []pixel.Pixel{0, a, 0, 0, a, 0}},
		{[]scene.Op{{Kind: scene.Delete, Id: 1}}, 1, []pixel.Pixel{0, 0, 0, 0, a, 0}},
		{[]scene.Op{{Kind: scene.Delete, Id: 2}}, 1, []pixel.Pixel{0, 0, 0, 0, 0, 0}},
	} {
		do(t, z, c.ops...)
		if n := shown(t, s, p, z); n != c.n || !slices.Equal(s.Image().Pixels, c.want) {
			t.Errorf("%d: %d, not %d, %08x, not %08x", k, n, c.n, s.Image().Pixels, c.want)
		}
	}
}

// P17.2: a scene without a pattern, changed again and again; some are shown more seldom than others.
func TestChanges(t *testing.T) {
	painted, all := 0, 0
	for seed := range uint64(120) {
		next := noise.Numbers(seed)
		w, h := 1+int(next()%24), 1+int(next()%24)
		s, p := made(t, w, h)
		z := scenery.Scene(next, w, h, 2+int(next()%20))
		for range 20 {
			painted += shown(t, s, p, z)
			all += w * h
			for range 1 + next()%4 {
				z.Apply(scenery.Op(next, z))
			}
		}
	}
	if painted < all/20 || painted > all/2 {
		t.Errorf("%d of %d were painted", painted, all)
	}
}

// P17.2: scenes that have nothing in common but their sides and ids, one behind the other, and those shown ahead again.
func TestOtherScenes(t *testing.T) {
	for seed := range uint64(60) {
		next := noise.Numbers(500 + seed)
		s, p := made(t, 17, 11)
		z := make([]*scene.Scene, 4)
		for k := range z {
			z[k] = scenery.Scene(next, 17, 11, 1+int(next()%14))
		}
		for range 12 {
			shown(t, s, p, z[next()%4])
			k := next() % 4
			z[k].Apply(scenery.Op(next, z[k]))
		}
	}
}

// P17.2: a scene that is the same, whatever was done to it between, has no pixel painted; nor what isn't seen of it.
func TestOnceMore(t *testing.T) {
	for seed := range uint64(60) {
		next := noise.Numbers(900 + seed)
		s, p := made(t, 20, 15)
		z := scenery.Scene(next, 20, 15, 20)
		shown(t, s, p, z)
		same := z.Copy()
		do(t, same, scene.Op{Kind: scene.SetHidden, On: true})
		other := same.Copy()
		n, _ := z.Node(0)
		do(t, same, scene.Op{Kind: scene.SetHidden, On: n.Hidden})
		if at, e := same.Apply(scene.Op{Kind: scene.SetHidden, On: true}, scene.Op{}); at != 1 || e != api.ErrKind {
			t.Fatalf("Apply: %d, %d", at, e)
		}
		if n := s.Show(same); n != 0 {
			t.Errorf("seed %d: %d", seed, n)
		}
		stands(t, s, p)
		shown(t, s, p, other)
		for range 5 {
			other.Apply(scenery.Op(next, other))
			do(t, other, scene.Op{Kind: scene.SetHidden, On: true})
			if n := s.Show(other); n != 0 {
				t.Errorf("seed %d: hidden: %d", seed, n)
			}
		}
	}
}

// P17.2: what is beside the screen, or bare, or covers no pixel's centre, has no pixel painted.
func TestUnseen(t *testing.T) {
	s, p := made(t, 5, 4)
	z := scenery.Of(5, 4, fill(1, 1, 2, 2, 0x10203040))
	shown(t, s, p, z)
	for k, n := range []node.Node{node.Plain(), fill(5, 0, 9, 9, 0xff), fill(0, -3, 9, 3, 0xff), scenery.Filled(affine.Shift(one+one/2+1, one+one/2+1), 1, 1)} {
		if k == 3 {
			n.Map, _ = affine.Scale(one/4, one/4).Then(n.Map)
		}
		do(t, z, scenery.Put(2+k, 0, 0, n)...)
		if n := shown(t, s, p, z); n != 0 {
			t.Errorf("%d: %d", k, n)
		}
	}
}

// P17.1: what is done to a scene isn't seen, until that is shown.
func TestUntilShown(t *testing.T) {
	next := noise.Numbers(3)
	s, p := made(t, 16, 16)
	z := scenery.Scene(next, 16, 16, 20)
	shown(t, s, p, z)
	for range 100 {
		z.Apply(scenery.Op(next, z))
		stands(t, s, p)
	}
	if n := shown(t, s, p, z); n == 0 {
		t.Error("nothing was painted")
	}
}

// P17.1: two screens of one scene, shown at other times, go their own ways.
func TestTwoScreens(t *testing.T) {
	next := noise.Numbers(4)
	a, p := made(t, 14, 9)
	b, q := made(t, 14, 9)
	z := scenery.Scene(next, 14, 9, 14)
	for range 60 {
		if next()%2 == 0 {
			shown(t, a, p, z)
		} else {
			shown(t, b, q, z)
		}
		z.Apply(scenery.Op(next, z))
		stands(t, a, p)
		stands(t, b, q)
	}
}

// grid is a scene of the greatest sides with n fills of that side, each a step further to the right, or in the next line.
func grid(t *testing.T, n, step, side int) *scene.Scene {
	t.Helper()
	z := scenery.Of(api.MaxSide, api.MaxSide)
	for id := 1; id <= n; {
		var ops []scene.Op
		for ; id <= n && len(ops) < 1000; id++ {
			ops = append(ops, scene.Op{Kind: scene.Create, Id: id, Place: id - 1}, moved(id, (id-1)%256*step, (id-1)/256*step), scene.Op{Kind: scene.SetLook, Id: id, Look: node.FillOf(side, side, pixel.Pixel(1+id%255))})
		}
		do(t, z, ops...)
	}
	return z
}

// P17.1, P17.2: one of a thousand nodes moves: few pixels are painted, and all are right.
func TestOneOfAThousand(t *testing.T) {
	s, _ := screen.New(api.MaxSide, api.MaxSide)
	z := grid(t, 1000, 10, 30)
	s.Show(z)
	for k := range 50 {
		do(t, z, moved(1+k*19, 5+37*k, 3+11*k))
		if n := s.Show(z); n < 1 || n > 1800 {
			t.Errorf("%d: %d pixels", k, n)
		}
	}
	if !image.Equal(s.Image(), raster.Pix(z)) || s.Show(z) != 0 {
		t.Error("it isn't the picture")
	}
}

// P17.1, P17.2: as many nodes as there may be, that lie apart: all come, one goes, is turned round to all others, moves, is hidden.
func TestMostNodes(t *testing.T) {
	const n, side = api.MaxNodes - 1, 12
	s, _ := screen.New(api.MaxSide, api.MaxSide)
	z := grid(t, n, 16, side)
	if got := s.Show(z); got != n*side*side || !image.Equal(s.Image(), raster.Pix(z)) {
		t.Errorf("%d pixels", got)
	}
	for k, c := range []struct {
		op   scene.Op
		want int
	}{
		{scene.Op{Kind: scene.Delete, Id: 300}, side * side},
		{scene.Op{Kind: scene.Move, Id: n}, 0},
		{moved(n, 4088, 4088), side*side + 8*8},
		{scene.Op{Kind: scene.SetHidden, Id: 1, On: true}, side * side},
	} {
		do(t, z, c.op)
		if got := s.Show(z); got != c.want {
			t.Errorf("%d: %d pixels, not %d", k, got, c.want)
		}
	}
	if !image.Equal(s.Image(), raster.Pix(z)) || s.Show(z) != 0 {
		t.Error("it isn't the picture")
	}
}

// P17.1: At of pixels that there aren't.
func TestAtOutside(t *testing.T) {
	s, p := made(t, 3, 2)
	shown(t, s, p, scenery.Of(3, 2, fill(-5, -5, 20, 20, 0xff)))
	for _, far := range []int{-1, 3, 4096, 1 << 31, 1 << 32, 1<<32 + 1, -1 << 32, 1 << 62, math.MaxInt, math.MinInt} {
		if s.At(far, 0) != 0 || s.At(0, far) != 0 || s.At(far, far) != 0 || s.At(1, 1) != 0xff {
			t.Errorf("At %d", far)
		}
	}
}

// P1: scenes of other sides, of which nothing is promised: each call ends, and the image stays a right one of its sides.
func TestOtherSides(t *testing.T) {
	for _, side := range [][2]int{{1, 1}, {5, 4}, {4, 5}, {1, 40}, {40, 1}, {api.MaxSide, 1}} {
		next := noise.Numbers(6)
		s, _ := made(t, 5, 4)
		for range 20 {
			s.Show(scenery.Scene(next, side[0], side[1], 12))
			if m := s.Image(); m.W != 5 || m.H != 4 || m.Check() != api.OK || s.Sum() != m.Sum() || s.Frame() != m.Frame() {
				t.Fatalf("%v: %v", side, m)
			}
		}
	}
}
