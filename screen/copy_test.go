package screen_test

import (
	"slices"
	"testing"

	"mutoscope/image"
	"mutoscope/node"
	"mutoscope/noise"
	"mutoscope/pixel"
	"mutoscope/raster"
	"mutoscope/rect"
	"mutoscope/scene"
	"mutoscope/scenery"
)

// P17.1: a copy shows what it was taken of, and knows of which items it is the picture: shown once more, nothing is painted.
func TestCopy(t *testing.T) {
	s, p := made(t, 4, 1)
	z := scenery.Of(4, 1, fill(0, 0, 2, 1, 0xff))
	c := s.Copy()
	stands(t, c, p)
	if n := c.Show(z); n != 2 {
		t.Errorf("of a new one: %d", n)
	}
	stands(t, s, p)
	shown(t, s, p, z)
	c, q := s.Copy(), p.copied()
	if c == s {
		t.Fatal("it is the same one")
	}
	stands(t, c, q)
	if n := c.Show(z); n != 0 {
		t.Errorf("once more: %d", n)
	}
	was := z.Copy()
	do(t, z, moved(1, 2, 0))
	if n := shown(t, s, p, z); n != 4 {
		t.Errorf("Show: %d", n)
	}
	stands(t, c, q)
	if n := c.Show(was); n != 0 {
		t.Errorf("what the copy shows: %d", n)
	}
	if n := shown(t, c, q, z); n != 4 || s.Sum() != c.Sum() {
		t.Errorf("Show of the copy: %d", n)
	}
}

// P17.1, P17.2: copies, and copies of these, go their own ways, and take each other's places.
func TestCopies(t *testing.T) {
	for seed := range uint64(40) {
		next := noise.Numbers(200 + seed)
		s, p := made(t, 13, 10)
		other, q := s.Copy(), p.copied()
		z := scenery.Scene(next, 13, 10, 14)
		for range 40 {
			switch next() % 6 {
			case 0:
				other, q = s.Copy(), p.copied()
			case 1:
				s, p, other, q = other, q, s, p
			case 2:
				shown(t, other, q, z)
			default:
				shown(t, s, p, z)
			}
			z.Apply(scenery.Op(next, z))
			stands(t, s, p)
			stands(t, other, q)
		}
	}
}

// spoil turns all bits of l, and of its spare room.
func spoil(l []pixel.Pixel) {
	l = l[:cap(l)]
	for k := range l {
		l[k] ^= 0xffffffff
	}
}

// The rule of memory: what Image tells is new, spare room too: it doesn't change, nor does the screen, whatever is done to the other one.
func TestImageMemory(t *testing.T) {
	next := noise.Numbers(7)
	s, p := made(t, 9, 7)
	z := scenery.Scene(next, 9, 7, 12)
	shown(t, s, p, z)
	a, b, c := s.Image(), s.Image(), s.Copy()
	spoil(a.Pixels)
	a.Fill(7, rect.Of(0, 0, 3, 3))
	if !image.Equal(b, p.image) {
		t.Error("two answers share memory")
	}
	stands(t, s, p)
	stands(t, c, p)
	do(t, z, scene.Op{Kind: scene.SetLook, Look: node.FillOf(9, 7, 0x01020304)}, scene.Op{Kind: scene.SetHidden}, scene.Op{Kind: scene.SetOpacity, N: 255})
	shown(t, s, p, z)
	if image.Equal(b, p.image) || !image.Equal(b, c.Image()) {
		t.Error("what was told doesn't stay")
	}
	spoil(c.Image().Pixels)
	if !image.Equal(c.Image(), b) {
		t.Error("what the copy told is shared")
	}
}

// The rule of memory: an image of a scene that was shown isn't kept as the scene has it, nor as it was handed in.
func TestShowMemory(t *testing.T) {
	next := noise.Numbers(8)
	m := noise.Image(next, 5, 4)
	given := append(slices.Clone(m.Pixels), 1, 2, 3)
	s, p := made(t, 5, 4)
	z := scenery.Of(5, 4)
	do(t, z, scene.Op{Kind: scene.SetLook, Look: node.Look{Kind: node.Image, Image: image.Image{W: 5, H: 4, Pixels: given[:20]}}})
	shown(t, s, p, z)
	spoil(given)
	n, _ := z.Node(0)
	spoil(n.Look.Image.Pixels)
	spoil(raster.Pix(z).Pixels)
	if n := s.Show(z); n != 0 || !image.Equal(s.Image(), raster.Pix(z)) {
		t.Errorf("Show: %d", n)
	}
	for k := range m.Pixels {
		was := m.Pixels[k]
		m.Pixels[k] = 0x010203ff
		do(t, z, scene.Op{Kind: scene.SetLook, Look: node.ImageOf(m)})
		if n := shown(t, s, p, z); n == 0 && was != m.Pixels[k] {
			t.Errorf("pixel %d: %d", k, n)
		}
	}
}
