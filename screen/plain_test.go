package screen_test

import (
	"testing"

	"mutoscope/affine"
	"mutoscope/api"
	"mutoscope/damage"
	"mutoscope/flat"
	"mutoscope/image"
	"mutoscope/node"
	"mutoscope/pixel"
	"mutoscope/raster"
	"mutoscope/scene"
	"mutoscope/scenery"
	"mutoscope/screen"
)

const one = api.One

// plain is a screen by the chapter's words: of each pixel it is asked whether it is damaged, and if so it is painted.
type plain struct {
	image image.Image
	shown []flat.Item
}

func newPlain(t *testing.T, w, h int) *plain {
	t.Helper()
	m, e := image.New(w, h)
	if e != api.OK {
		t.Fatalf("New(%d, %d): %d", w, h, e)
	}
	return &plain{image: m}
}

func (p *plain) show(z *scene.Scene) int {
	l, n := flat.List(z), 0
	g := damage.Between(p.shown, l, p.image.Frame())
	for y := range p.image.H {
		for x := range p.image.W {
			if g.Has(x, y) {
				p.image.Pixels[y*p.image.W+x] = raster.Pixel(l, x, y)
				n++
			}
		}
	}
	p.shown = l
	return n
}

func (p *plain) copied() *plain {
	return &plain{p.image.Copy(), p.shown}
}

// made is a new screen, and a plain one.
func made(t *testing.T, w, h int) (*screen.Screen, *plain) {
	t.Helper()
	s, e := screen.New(w, h)
	if s == nil || e != api.OK {
		t.Fatalf("New(%d, %d): %d", w, h, e)
	}
	p := newPlain(t, w, h)
	stands(t, s, p)
	return s, p
}

// stands holds all that s tells against p.
func stands(t *testing.T, s *screen.Screen, p *plain) {
	t.Helper()
	m := s.Image()
	if !image.Equal(m, p.image) || m.Check() != api.OK {
		t.Fatalf("Image: %d by %d, Check %d, %08x, not %08x", m.W, m.H, m.Check(), m.Pixels, p.image.Pixels)
	}
	if s.Frame() != p.image.Frame() || s.Sum() != p.image.Sum() {
		t.Fatalf("Frame: %v, Sum: %08x", s.Frame(), s.Sum())
	}
	for y := -1; y <= m.H; y++ {
		for x := -1; x <= m.W; x++ {
			if s.At(x, y) != p.image.At(x, y) {
				t.Fatalf("At(%d, %d): %08x, not %08x", x, y, s.At(x, y), p.image.At(x, y))
			}
		}
	}
}

// shown is what Show of z tells, after all was held against the chapter's words, and z was shown once more.
func shown(t *testing.T, s *screen.Screen, p *plain, z *scene.Scene) int {
	t.Helper()
	was := z.Copy()
	n, want := s.Show(z), p.show(z)
	if n != want {
		t.Fatalf("Show: %d, not %d", n, want)
	}
	stands(t, s, p)
	if !image.Equal(s.Image(), raster.Pix(z)) {
		t.Fatalf("%08x isn't the picture %08x", s.Image().Pixels, raster.Pix(z).Pixels)
	}
	if n := s.Show(z); n != 0 {
		t.Fatalf("once more: %d", n)
	}
	stands(t, s, p)
	if !scene.Equal(z, was) {
		t.Fatal("the scene isn't what it was")
	}
	return n
}

func do(t *testing.T, s *scene.Scene, l ...scene.Op) {
	t.Helper()
	if at, e := s.Apply(l...); at != len(l) || e != api.OK {
		t.Fatalf("Apply %v: %d, %d", l, at, e)
	}
}

// fill is a node of w by h pixels of that colour, at whole pixels.
func fill(x, y, w, h int, c pixel.Pixel) node.Node {
	return scenery.With(func(n *node.Node) {
		n.Map, n.Look = affine.Shift(int64(x)*one, int64(y)*one), node.FillOf(w, h, c)
	})
}

// moved is the op by which the node id lies at a whole pixel.
func moved(id, x, y int) scene.Op {
	return scene.Op{Kind: scene.SetMap, Id: id, Map: affine.Shift(int64(x)*one, int64(y)*one)}
}
