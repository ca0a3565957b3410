package node_test

import (
	"slices"
	"testing"

	"mutoscope/api"
	"mutoscope/image"
	"mutoscope/node"
	"mutoscope/noise"
	"mutoscope/pixel"
)

// P11.1, P11.2: the chapter's example.
func TestExample(t *testing.T) {
	if l := node.FillOf(2, 1, 255); l.At(1, 0) != 255 || l.At(2, 0) != 0 {
		t.Errorf("%08x, %08x", l.At(1, 0), l.At(2, 0))
	}
}

// The kinds have the chapter's numbers: they stand in logs.
func TestKinds(t *testing.T) {
	if node.Bare != 0 || node.Fill != 1 || node.Image != 2 {
		t.Errorf("%d, %d, %d", node.Bare, node.Fill, node.Image)
	}
}

// P11.1: FillOf tells the look with just these, also such as may not be.
func TestFillOf(t *testing.T) {
	for _, w := range sides() {
		for _, h := range sides() {
			for _, c := range colours() {
				l := node.FillOf(w, h, c)
				if l.Kind != 1 || l.W != w || l.H != h || l.Color != c || l.Image.W != 0 || l.Image.H != 0 || len(l.Image.Pixels) != 0 {
					t.Fatalf("FillOf(%d, %d, %08x): %v", w, h, c, l)
				}
			}
		}
	}
}

// P11.1: ImageOf tells the look with a copy of just this, also of one that may not be; neither changes with the other, their spare room neither.
func TestImageOf(t *testing.T) {
	for _, m := range images() {
		in, all := roomy(m.Pixels)
		was := slices.Clone(all)
		m.Pixels = in
		l := node.ImageOf(m)
		if l.Kind != 2 || l.W != 0 || l.H != 0 || l.Color != 0 || !image.Equal(l.Image, m) {
			t.Fatalf("ImageOf %d by %d: %d, %d by %d, %08x, %d by %d", m.W, m.H, l.Kind, l.W, l.H, l.Color, l.Image.W, l.Image.H)
		}
		spoil(l.Image.Pixels)
		if !slices.Equal(all, was) {
			t.Fatalf("ImageOf %d by %d: what was told is shared", m.W, m.H)
		}
		l = node.ImageOf(m)
		spoil(all)
		if !slices.Equal(l.Image.Pixels, was[:len(in)]) {
			t.Fatalf("ImageOf %d by %d: what was handed in is kept", m.W, m.H)
		}
	}
}

// roomy is a copy of l with spare room behind it, and all of that memory.
func roomy(l []pixel.Pixel) (in, all []pixel.Pixel) {
	all = append(slices.Clone(l), 1, 2, 3)
	return all[:len(l)], all
}

// spoil turns all bits of l, and of its spare room.
func spoil(l []pixel.Pixel) {
	l = l[:cap(l)]
	for k := range l {
		l[k] ^= 0xffffffff
	}
}

// P11.1: Check of each kind with each size, colour and image.
func TestCheckOfLooks(t *testing.T) {
	count := map[api.Errno]int{}
	for _, m := range images() {
		for _, kind := range kinds() {
			for _, w := range sides() {
				for _, h := range sides() {
					for _, c := range colours() {
						l := node.Look{Kind: kind, W: w, H: h, Color: c, Image: m}
						want := plainLook(l)
						if e := l.Check(); e != want {
							t.Fatalf("%d, %d by %d, %08x, %d by %d, %d pixels: %d, not %d", kind, w, h, c, m.W, m.H, len(m.Pixels), e, want)
						}
						count[want]++
					}
				}
			}
		}
	}
	if count[api.OK] < 50 || count[api.ErrForm] < 1000 || count[api.ErrRange] < 1000 {
		t.Errorf("asked of too few: %v", count)
	}
}

// P11.1: Check by hand.
func TestCheckOfLooksByHand(t *testing.T) {
	small, none := image.Image{W: 1, H: 2, Pixels: []pixel.Pixel{0xff, 0}}, image.Image{Pixels: []pixel.Pixel{}}
	for k, c := range []struct {
		l node.Look
		e api.Errno
	}{
		{node.Look{}, api.OK}, {node.Look{Image: none}, api.OK}, {node.Look{W: 1}, api.ErrForm}, {node.Look{H: -1}, api.ErrForm}, {node.Look{Color: 0xff}, api.ErrForm}, {node.Look{Image: small}, api.ErrForm}, {node.Look{Image: image.Image{W: 1}}, api.ErrForm}, {node.Look{Image: image.Image{H: 1}}, api.ErrForm}, {node.Look{Image: image.Image{Pixels: []pixel.Pixel{0}}}, api.ErrForm},
		{node.FillOf(1, 1, 0), api.OK}, {node.FillOf(4096, 4096, 0xffffffff), api.OK}, {node.Look{Kind: 1, W: 1, H: 1, Image: none}, api.OK}, {node.FillOf(0, 1, 0), api.ErrRange}, {node.FillOf(1, 0, 0), api.ErrRange}, {node.FillOf(4097, 1, 0), api.ErrRange}, {node.FillOf(1, 4097, 0), api.ErrRange}, {node.FillOf(-1, -1, 0), api.ErrRange},
		{node.FillOf(1, 1, 0x100), api.ErrForm}, {node.FillOf(0, 1, 0x100), api.ErrRange}, {node.Look{Kind: 1, W: 1, H: 1, Image: small}, api.ErrForm}, {node.Look{Kind: 1, W: 1, Image: small}, api.ErrRange}, {node.Look{Kind: 1}, api.ErrRange}, {node.Look{Kind: 1, W: 1, H: 1, Image: image.Image{W: 1}}, api.ErrForm},
		{node.ImageOf(small), api.OK}, {node.Look{Kind: 2}, api.ErrForm}, {node.Look{Kind: 2, Image: none}, api.ErrForm}, {node.Look{Kind: 2, W: 1, Image: small}, api.ErrForm}, {node.Look{Kind: 2, H: 2, Image: small}, api.ErrForm}, {node.Look{Kind: 2, W: 1, H: 2, Image: small}, api.ErrForm}, {node.Look{Kind: 2, Color: 0xff, Image: small}, api.ErrForm}, {node.Look{Kind: 2, W: -1, H: 9999, Image: small}, api.ErrForm},
		{node.Look{Kind: 3}, api.ErrRange}, {node.Look{Kind: -1}, api.ErrRange}, {node.Look{Kind: 3, W: 1, Color: 0x100, Image: small}, api.ErrRange}, {node.Look{Kind: 1 << 32, W: 1, H: 1}, api.ErrRange},
	} {
		if e := c.l.Check(); e != c.e {
			t.Errorf("%d: Check %d, not %d", k, e, c.e)
		}
	}
}

// P11.1: Check of an image with one pixel that isn't right, at each place; what stands behind the pixels isn't asked.
func TestCheckOfImagePixels(t *testing.T) {
	next := noise.Numbers(3)
	for k := range 5 * 3 {
		m := noise.Image(next, 5, 3)
		m.Pixels = append(m.Pixels, 0x100)[:15]
		l := node.Look{Kind: node.Image, Image: m}
		if e := l.Check(); e != api.OK {
			t.Fatalf("Check %d", e)
		}
		m.Pixels[k] = 0x100
		if e := l.Check(); e != api.ErrForm {
			t.Errorf("a wrong pixel at %d: Check %d", k, e)
		}
	}
}

// P11.2: Size and At of a bare look: there is no pixel.
func TestBare(t *testing.T) {
	for _, l := range []node.Look{{}, {Image: image.Image{Pixels: []pixel.Pixel{}}}} {
		if w, h := l.Size(); w != 0 || h != 0 {
			t.Errorf("Size: %d, %d", w, h)
		}
		for _, x := range sides() {
			for _, y := range sides() {
				if p := l.At(x, y); p != 0 {
					t.Errorf("At(%d, %d): %08x", x, y, p)
				}
			}
		}
	}
}

// P11.2: Size and At of fills, at each of their edges, and far from them.
func TestFills(t *testing.T) {
	places := slices.Concat(sides(), []int{3, 4, 5, 99, 254, 258, 4094, 4098})
	for _, w := range []int{1, 2, 4, 256, 4095, 4096} {
		for _, h := range []int{1, 3, 257, 4096} {
			for _, c := range []pixel.Pixel{0, 0xff, 0x01020304, 0xffffffff} {
				l := node.FillOf(w, h, c)
				if gotW, gotH := l.Size(); gotW != w || gotH != h {
					t.Fatalf("%d by %d: Size %d, %d", w, h, gotW, gotH)
				}
				for _, x := range places {
					for _, y := range places {
						want := pixel.Pixel(0)
						if from(x, 0, w-1) && from(y, 0, h-1) {
							want = c
						}
						if p := l.At(x, y); p != want {
							t.Fatalf("%d by %d of %08x: At(%d, %d) %08x", w, h, c, x, y, p)
						}
					}
				}
			}
		}
	}
}

// P11.2: Size and At of images, each pixel in and about them, and far from them.
func TestImages(t *testing.T) {
	next := noise.Numbers(4)
	for _, s := range [][2]int{{1, 1}, {2, 1}, {1, 2}, {3, 4}, {4, 3}, {1, 256}, {256, 1}, {256, 256}} {
		w, h := s[0], s[1]
		l := node.ImageOf(noise.Image(next, w, h))
		if gotW, gotH := l.Size(); gotW != w || gotH != h {
			t.Fatalf("%d by %d: Size %d, %d", w, h, gotW, gotH)
		}
		colour := map[[2]int]pixel.Pixel{}
		for k, p := range l.Image.Pixels {
			colour[[2]int{k % w, k / w}] = p
		}
		ask := func(x, y int) {
			if p := l.At(x, y); p != colour[[2]int{x, y}] {
				t.Fatalf("%d by %d: At(%d, %d) %08x, not %08x", w, h, x, y, p, colour[[2]int{x, y}])
			}
		}
		for x := -2; x < w+2; x++ {
			for y := -2; y < h+2; y++ {
				ask(x, y)
			}
		}
		for _, x := range sides() {
			for _, y := range sides() {
				ask(x, y)
			}
		}
	}
}
