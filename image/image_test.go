package image_test

import (
	"math"
	"slices"
	"testing"

	"mutoscope/api"
	"mutoscope/crc"
	"mutoscope/image"
	"mutoscope/noise"
	"mutoscope/pixel"
	"mutoscope/rect"
)

// The calls and the type that the chapter lists, by their signatures.
var (
	_ func(w, h int) (image.Image, api.Errno)                = image.New
	_ func(m image.Image) api.Errno                          = image.Image.Check
	_ func(m image.Image) bool                               = image.Image.Small
	_ func(m image.Image, x, y int) pixel.Pixel              = image.Image.At
	_ func(m image.Image, x, y int, p pixel.Pixel) bool      = image.Image.Set
	_ func(m image.Image, p pixel.Pixel, l ...rect.Rect) int = image.Image.Fill
	_ func(m image.Image) rect.Rect                          = image.Image.Frame
	_ func(m image.Image) image.Image                        = image.Image.Copy
	_ func(m image.Image) uint32                             = image.Image.Sum
	_ func(a, b image.Image) bool                            = image.Equal
	_ struct {
		W, H   int
		Pixels []pixel.Pixel
	} = image.Image{}
)

// P10.1, P10.2: the chapter's example.
func TestExample(t *testing.T) {
	m, e := image.New(2, 1)
	if e != api.OK || !m.Set(1, 0, 255) || m.At(1, 0) != 255 || m.At(0, 0) != 0 || m.At(2, 0) != 0 {
		t.Errorf("%d: %08x, %08x, %08x", e, m.At(0, 0), m.At(1, 0), m.At(2, 0))
	}
}

// sidesAtEdges is sides that an image may have, and such as it may not.
func sidesAtEdges() []int {
	return []int{1, 2, 3, 255, 256, 257, api.MaxSide - 1, api.MaxSide, api.MaxSide + 1, 0, -1, -2, -api.MaxSide, 1 << 16, 1 << 31, 1 << 32, 1<<32 + 1, 1 << 62, math.MaxInt, math.MinInt, math.MinInt + 1}
}

func side(n int) bool {
	return n >= 1 && n <= 4096
}

// P10.1: New of all sides at the edges, in both places: an error, and nothing else, or an image of pixels 0 that is right.
func TestNew(t *testing.T) {
	for _, w := range sidesAtEdges() {
		for _, h := range sidesAtEdges() {
			m, e := image.New(w, h)
			if !side(w) || !side(h) {
				if e != api.ErrRange || m.W != 0 || m.H != 0 || len(m.Pixels) != 0 {
					t.Errorf("New(%d, %d): %d, %d by %d", w, h, e, m.W, m.H)
				}
				continue
			}
			some := slices.ContainsFunc(m.Pixels, func(p pixel.Pixel) bool { return p != 0 })
			if e != api.OK || m.W != w || m.H != h || len(m.Pixels) != w*h || some || m.Check() != api.OK {
				t.Fatalf("New(%d, %d): %d, %d by %d, %d pixels, Check %d", w, h, e, m.W, m.H, len(m.Pixels), m.Check())
			}
			if m.Small() != (w <= 256 && h <= 256) || m.Frame() != rect.Of(0, 0, w, h) || m.Frame().Area() != w*h {
				t.Errorf("New(%d, %d): Small %v, Frame %v", w, h, m.Small(), m.Frame())
			}
		}
	}
}

// P10.1: two images of New share nothing.
func TestNewOnes(t *testing.T) {
	a, _ := image.New(3, 3)
	b, _ := image.New(3, 3)
	a.Fill(0xff, a.Frame())
	c, _ := image.New(3, 3)
	if slices.Contains(b.Pixels, 0xff) || slices.Contains(c.Pixels, 0xff) {
		t.Errorf("%08x, %08x", b.Pixels, c.Pixels)
	}
}

// P10.1: Check of wrong sides, with as many pixels as they could ask for, right and wrong ones: ErrRange comes first.
func TestCheckOfSides(t *testing.T) {
	for _, w := range sidesAtEdges() {
		for _, h := range sidesAtEdges() {
			if side(w) && side(h) {
				continue
			}
			for _, n := range []int{0, 1, 2, 4, 6, 257, w * h} {
				if n < 0 || n > 1<<21 {
					continue
				}
				for _, p := range []pixel.Pixel{0, 0x100} {
					m := image.Image{W: w, H: h, Pixels: slices.Repeat([]pixel.Pixel{p}, n)}
					if m.Check() != api.ErrRange || m.Small() {
						t.Fatalf("%d by %d, %d pixels: Check %d, Small %v", w, h, n, m.Check(), m.Small())
					}
				}
			}
		}
	}
	if (image.Image{}).Check() != api.ErrRange || (image.Image{}).Small() {
		t.Errorf("of nothing: %d", image.Image{}.Check())
	}
}

// P10.1: Check of right sides, and any number of pixels.
func TestCheckOfHowMany(t *testing.T) {
	for w := 1; w <= 5; w++ {
		for h := 1; h <= 5; h++ {
			for n := range 40 {
				m := image.Image{W: w, H: h, Pixels: make([]pixel.Pixel, n)}
				want := api.ErrForm
				if n == w*h {
					want = api.OK
				}
				if m.Check() != want || m.Small() != (want == api.OK) {
					t.Errorf("%d by %d, %d pixels: Check %d, Small %v", w, h, n, m.Check(), m.Small())
				}
			}
			if e := (image.Image{W: w, H: h}).Check(); e != api.ErrForm {
				t.Errorf("%d by %d, without pixels: %d", w, h, e)
			}
		}
	}
	great := image.Image{W: api.MaxSide, H: api.MaxSide, Pixels: make([]pixel.Pixel, api.MaxSide*api.MaxSide+1)}
	for less := range 3 {
		m := great
		m.Pixels = m.Pixels[:len(m.Pixels)-less]
		if m.Check() != [3]api.Errno{api.ErrForm, api.OK, api.ErrForm}[less] || m.Small() {
			t.Errorf("the greatest one, %d pixels: Check %d", len(m.Pixels), m.Check())
		}
	}
}

// P10.1: Check of one pixel that isn't right, at each place; what stands behind the pixels isn't asked.
func TestCheckOfPixels(t *testing.T) {
	next := noise.Numbers(1)
	for _, s := range [][2]int{{1, 1}, {1, 5}, {5, 1}, {3, 4}, {16, 9}} {
		for k := range s[0] * s[1] {
			m := noise.Image(next, s[0], s[1])
			for _, p := range wrongPixels() {
				m.Pixels[k] = p
				if m.Check() != api.ErrForm || m.Small() {
					t.Errorf("%d by %d, %08x at %d: Check %d, Small %v", s[0], s[1], p, k, m.Check(), m.Small())
				}
			}
			m.Pixels[k] = 0xffffffff
			m.Pixels = append(m.Pixels, 0x100)[:len(m.Pixels)]
			if m.Check() != api.OK || !m.Small() {
				t.Errorf("%d by %d: Check %d, Small %v", s[0], s[1], m.Check(), m.Small())
			}
		}
	}
}

// P10.1: Small of sides about the bound, whose pixels are right or not.
func TestSmall(t *testing.T) {
	for _, w := range []int{1, 255, 256, 257, 258, 4096} {
		for _, h := range []int{1, 255, 256, 257, 258, 4096} {
			m, _ := image.New(w, h)
			if m.Small() != (w <= 256 && h <= 256) {
				t.Errorf("%d by %d: Small %v", w, h, m.Small())
			}
			m.Pixels[w*h-1] = 0x100
			if m.Small() {
				t.Errorf("%d by %d, with a wrong pixel: small", w, h)
			}
		}
	}
}

// P10.1: Frame tells the numbers 0, 0, W, H.
func TestFrame(t *testing.T) {
	for _, w := range sidesAtEdges() {
		for _, h := range sidesAtEdges() {
			m := image.Image{W: w, H: h}
			if m.Frame() != (rect.Rect{X0: 0, Y0: 0, X1: w, Y1: h}) {
				t.Errorf("%d by %d: %v", w, h, m.Frame())
			}
		}
	}
}

// P10.2: At and Set of each pixel in and about small images: Set changes that one alone.
func TestAtAndSet(t *testing.T) {
	next := noise.Numbers(2)
	for _, s := range [][2]int{{1, 1}, {1, 2}, {2, 1}, {1, 7}, {7, 1}, {2, 3}, {3, 2}, {4, 4}, {5, 3}} {
		for y := -8; y <= 8; y++ {
			for x := -8; x <= 8; x++ {
				m := noise.Image(next, s[0], s[1])
				a, p := plainOf(m), noise.Pixel(next)
				if got, want := m.At(x, y), a.colour[place{x, y}]; got != want {
					t.Fatalf("%d by %d: At(%d, %d): %08x, not %08x", s[0], s[1], x, y, got, want)
				}
				if got, want := m.Set(x, y, p), a.set(x, y, p); got != want {
					t.Fatalf("%d by %d: Set(%d, %d, %08x): %v", s[0], s[1], x, y, p, got)
				}
				same(t, m, a)
			}
		}
	}
}

// P10.2: Set of pixels that are the same as before, of 0, of the greatest one, and of wrong ones.
func TestSetOfPixels(t *testing.T) {
	m := image.Image{W: 2, H: 2, Pixels: []pixel.Pixel{1, 2, 3, 4}}
	for _, p := range []pixel.Pixel{3, 3, 0, 0, 0xffffffff, 0x010101ff, 1} {
		if !m.Set(0, 1, p) || !slices.Equal(m.Pixels, []pixel.Pixel{1, 2, p, 4}) {
			t.Errorf("Set(0, 1, %08x): %08x", p, m.Pixels)
		}
	}
	for _, p := range wrongPixels() {
		if m.Set(0, 1, p) || m.Set(2, 0, p) || m.Set(-1, -1, p) || !slices.Equal(m.Pixels, []pixel.Pixel{1, 2, 1, 4}) {
			t.Errorf("Set(0, 1, %08x): %08x", p, m.Pixels)
		}
	}
}

// P10.2: places far from the image, some of which stand within its pixels if line after line is counted, or if numbers wrap round.
func TestFarPlaces(t *testing.T) {
	far := []int{0, 1, 2, 3, 4, -1, -2, -4, 11, 12, 1 << 16, 1 << 31, 1 << 32, -1 << 32, 1<<32 + 1, 1 << 61, 1 << 62, 1<<62 + 1, -1 << 62, math.MaxInt, math.MaxInt - 1, math.MinInt, math.MinInt + 1}
	next := noise.Numbers(3)
	for _, s := range [][2]int{{4, 3}, {1, 12}, {12, 1}, {256, 2}} {
		m := noise.Image(next, s[0], s[1])
		a := plainOf(m)
		for _, x := range far {
			for _, y := range far {
				want, there := a.colour[place{x, y}]
				if m.At(x, y) != want || !there && m.Set(x, y, 0xff) {
					t.Errorf("%d by %d: at %d, %d", s[0], s[1], x, y)
				}
			}
		}
		same(t, m, a)
	}
}

// P10.2: the corners of the greatest image.
func TestTheGreatestOne(t *testing.T) {
	const most = api.MaxSide - 1
	m, _ := image.New(api.MaxSide, api.MaxSide)
	for k, at := range []place{{0, 0}, {most, 0}, {0, most}, {most, most}} {
		p := pixel.Pixel(k + 1)
		if !m.Set(at.x, at.y, p) || m.At(at.x, at.y) != p {
			t.Errorf("Set(%d, %d)", at.x, at.y)
		}
	}
	if m.Pixels[0] != 1 || m.Pixels[most] != 2 || m.Pixels[most*4096] != 3 || m.Pixels[most*4096+most] != 4 || m.Set(4096, 0, 1) || m.Set(0, 4096, 1) {
		t.Errorf("%d, %d, %d, %d", m.Pixels[0], m.Pixels[most], m.Pixels[most*4096], m.Pixels[most*4096+most])
	}
	if n := m.Fill(9, rect.Of(-9, most, 2, 4099), m.Frame().Grow(5), rect.Of(most, 0, 4097, 1)); n != 4096*4096 || slices.ContainsFunc(m.Pixels, func(p pixel.Pixel) bool { return p != 9 }) {
		t.Errorf("Fill: %d", n)
	}
	b := m.Copy()
	if !image.Equal(m, b) || m.Sum() != b.Sum() {
		t.Errorf("Copy isn't the same")
	}
	b.Set(most, most, 8)
	if image.Equal(m, b) || m.Sum() == b.Sum() {
		t.Errorf("Copy is the same, though it was set")
	}
}

// P10.2: Set and Fill change the image's own Pixels, and nothing beside them.
func TestOwnPixels(t *testing.T) {
	pixels := []pixel.Pixel{1, 2, 3, 4, 5, 6}
	m := image.Image{W: 3, H: 2, Pixels: pixels}
	again := m
	m.Set(1, 1, 0xff)
	again.Fill(0xfe, rect.Of(2, 0, 3, 1))
	if !slices.Equal(pixels, []pixel.Pixel{1, 2, 0xfe, 4, 0xff, 6}) {
		t.Errorf("%08x", pixels)
	}
	next := noise.Numbers(4)
	in, all := roomy(noise.Image(next, 5, 4))
	was := slices.Clone(all)
	for y := -2; y < 7; y++ {
		for x := -7; x < 12; x++ {
			in.Set(x, y, 0xff)
		}
	}
	in.Fill(0xfe, rect.Of(-9, -9, 99, 99))
	in.Copy()
	in.Sum()
	if !slices.Equal(all[:10], was[:10]) || !slices.Equal(all[30:], was[30:]) || slices.ContainsFunc(all[10:30], func(p pixel.Pixel) bool { return p != 0xfe }) {
		t.Errorf("%08x", all)
	}
}

// P10.2: Copy is the same, and neither is changed with the other, their spare room neither.
func TestCopy(t *testing.T) {
	next := noise.Numbers(5)
	for _, s := range [][2]int{{1, 1}, {3, 2}, {2, 3}, {17, 5}, {256, 256}} {
		m, all := roomy(noise.Image(next, s[0], s[1]))
		was := slices.Clone(all)
		a, c := plainOf(m), m.Copy()
		same(t, c, a)
		if !image.Equal(m, c) || c.Sum() != m.Sum() {
			t.Fatalf("%d by %d: Copy isn't the same", s[0], s[1])
		}
		spare := c.Pixels[:cap(c.Pixels)]
		for k := range spare {
			spare[k] ^= 0xffffffff
		}
		if !slices.Equal(all, was) {
			t.Fatalf("%d by %d: what Copy told is shared", s[0], s[1])
		}
		c = m.Copy()
		for k := range all {
			all[k] ^= 0xffffffff
		}
		same(t, c, a)
	}
}

// Copy of any image, also of one that isn't right, is the same: the layers above copy such, too.
func TestCopyOfAny(t *testing.T) {
	for _, m := range []image.Image{{}, {W: 3}, {H: -1}, {W: 1, H: 1}, {Pixels: []pixel.Pixel{1, 0x100}}, {W: 2, H: 2, Pixels: []pixel.Pixel{7}}, {W: math.MaxInt, H: math.MinInt, Pixels: []pixel.Pixel{}}} {
		c := m.Copy()
		if c.W != m.W || c.H != m.H || !slices.Equal(c.Pixels, m.Pixels) || !image.Equal(c, m) {
			t.Errorf("%v: %v", m, c)
		}
		for k := range c.Pixels {
			c.Pixels[k]++
		}
		if len(m.Pixels) > 0 && image.Equal(c, m) {
			t.Errorf("%v is shared", m)
		}
	}
}

// P10.2: Sum by hand, and of any image by the chapter's words.
func TestSum(t *testing.T) {
	m := image.Image{W: 1, H: 2, Pixels: []pixel.Pixel{0x01020304, 0xfffefdff}}
	if want := crc.Sum([]byte{1, 0, 0, 0, 2, 0, 0, 0, 4, 3, 2, 1, 0xff, 0xfd, 0xfe, 0xff}); m.Sum() != want {
		t.Errorf("Sum: %08x, not %08x", m.Sum(), want)
	}
	m, _ = image.New(258, 1)
	m.Set(257, 0, 0x00000001)
	if want := crc.Sum([]byte{2, 1, 0, 0, 1, 0, 0, 0}, make([]byte, 4*257), []byte{1, 0, 0, 0}); m.Sum() != want {
		t.Errorf("Sum: %08x, not %08x", m.Sum(), want)
	}
	next := noise.Numbers(6)
	for w := 1; w <= 9; w++ {
		for h := 1; h <= 9; h++ {
			m := noise.Image(next, w, h)
			if got, want := m.Sum(), crc.Sum(plainOf(m).bytes()); got != want {
				t.Fatalf("%d by %d: Sum %08x, not %08x", w, h, got, want)
			}
		}
	}
	for _, s := range [][2]int{{1, 4096}, {4096, 1}, {257, 300}} {
		m := noise.Image(next, s[0], s[1])
		if got, want := m.Sum(), crc.Sum(plainOf(m).bytes()); got != want {
			t.Errorf("%d by %d: Sum %08x, not %08x", s[0], s[1], got, want)
		}
	}
}

// P10.2: images that differ in their sides, in one pixel, or in the order of two, have other sums, and aren't Equal.
func TestSumsAndEqual(t *testing.T) {
	next := noise.Numbers(7)
	m := noise.Image(next, 6, 4)
	m.Pixels[0], m.Pixels[1] = 1, 2
	unlike := func(what string, b image.Image) {
		t.Helper()
		if image.Equal(m, b) || image.Equal(b, m) || m.Sum() == b.Sum() {
			t.Errorf("%s: Equal %v, Sum %08x and %08x", what, image.Equal(m, b), m.Sum(), b.Sum())
		}
	}
	for _, s := range [][2]int{{4, 6}, {24, 1}, {1, 24}, {3, 8}, {2, 12}} {
		unlike("other sides", image.Image{W: s[0], H: s[1], Pixels: m.Pixels})
	}
	for k := range m.Pixels {
		for bit := range 32 {
			b := m.Copy()
			b.Pixels[k] ^= 1 << bit
			unlike("another pixel", b)
		}
	}
	b := m.Copy()
	b.Pixels[0], b.Pixels[1] = b.Pixels[1], b.Pixels[0]
	unlike("another order", b)
	for _, b := range []image.Image{m, m.Copy(), {W: 6, H: 4, Pixels: append(slices.Clone(m.Pixels), 5)[:24]}} {
		if !image.Equal(m, b) || !image.Equal(b, m) || m.Sum() != b.Sum() {
			t.Errorf("the same: Equal %v, Sum %08x and %08x", image.Equal(m, b), m.Sum(), b.Sum())
		}
	}
}

// Equal of images that aren't right: one more pixel, other sides with none, and nil and empty Pixels, which are one.
func TestEqualOfAny(t *testing.T) {
	for _, c := range []struct {
		a, b image.Image
		same bool
	}{
		{image.Image{}, image.Image{}, true}, {image.Image{}, image.Image{Pixels: []pixel.Pixel{}}, true}, {image.Image{W: 1}, image.Image{}, false}, {image.Image{H: 1}, image.Image{}, false}, {image.Image{W: 1}, image.Image{H: 1}, false},
		{image.Image{W: 1, H: 1, Pixels: []pixel.Pixel{0}}, image.Image{W: 1, H: 1}, false}, {image.Image{W: 1, H: 1, Pixels: []pixel.Pixel{0}}, image.Image{W: 1, H: 1, Pixels: []pixel.Pixel{0, 0}}, false}, {image.Image{W: 1, H: 1, Pixels: []pixel.Pixel{0x100}}, image.Image{W: 1, H: 1, Pixels: []pixel.Pixel{0x100}}, true},
	} {
		if image.Equal(c.a, c.b) != c.same || image.Equal(c.b, c.a) != c.same {
			t.Errorf("Equal(%v, %v): %v", c.a, c.b, image.Equal(c.a, c.b))
		}
	}
}

// P1: no call panics, or goes on for ever, at images that aren't right, and at any numbers; nothing beside the Pixels is changed.
func TestAllArguments(t *testing.T) {
	numbers := append(sidesAtEdges(), 4, 5, -4096, 1<<61, 1<<63-2)
	next := noise.Numbers(8)
	one := func() int { return numbers[next()%uint64(len(numbers))] }
	for range 100000 {
		m, all := roomy(image.Image{W: one(), H: one(), Pixels: slices.Repeat([]pixel.Pixel{pixel.Pixel(next())}, int(next()%7))})
		was, n := slices.Clone(all), len(m.Pixels)
		m.Check()
		m.Small()
		m.Frame()
		m.At(one(), one())
		m.Sum()
		image.Equal(m, m.Copy())
		if !slices.Equal(all, was) {
			t.Fatalf("%d by %d, %d pixels: changed by a call that asks", m.W, m.H, n)
		}
		m.Set(one(), one(), pixel.Pixel(next()))
		m.Fill(pixel.Pixel(next()), rect.Rect{X0: one(), Y0: one(), X1: one(), Y1: one()}, rect.Rect{X1: math.MaxInt, Y1: math.MaxInt})
		m.Fill(0xff, rect.Rect{X0: math.MinInt, Y0: math.MinInt, X1: math.MaxInt, Y1: math.MaxInt}, m.Frame())
		if !slices.Equal(all[:10], was[:10]) || !slices.Equal(all[10+n:], was[10+n:]) {
			t.Fatalf("%d by %d, %d pixels: what lies beside them is changed", m.W, m.H, n)
		}
	}
}
