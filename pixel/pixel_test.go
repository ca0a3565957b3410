package pixel_test

import (
	"math"
	"slices"
	"testing"

	"mutoscope/noise"
	"mutoscope/pixel"
)

// The calls and the type that the chapter lists, by their signatures.
var (
	_ func(r, g, b, a int) (pixel.Pixel, bool)          = pixel.Of
	_ func(p pixel.Pixel) (r, g, b, a int)              = pixel.Pixel.Parts
	_ func(p pixel.Pixel) bool                          = pixel.Pixel.Right
	_ func(p, q int) int                                = pixel.By
	_ func(p pixel.Pixel, parts ...int) pixel.Pixel     = pixel.Pixel.By
	_ func(p pixel.Pixel, l ...pixel.Pixel) pixel.Pixel = pixel.Pixel.Over
	_ func(l ...pixel.Pixel) pixel.Pixel                = pixel.Stack
	_ uint32                                            = uint32(pixel.Pixel(0))
)

// P9.1, P9.2: the chapter's example.
func TestExample(t *testing.T) {
	p, pRight := pixel.Of(128, 0, 0, 128)
	d, dRight := pixel.Of(0, 0, 255, 255)
	r, g, b, a := p.Over(d).Parts()
	if r != 128 || g != 0 || b != 127 || a != 255 || !pRight || !dRight {
		t.Errorf("%08x over %08x: %d, %d, %d, %d", p, d, r, g, b, a)
	}
}

// P9.1: where the parts stand in a pixel's bits.
func TestPlaces(t *testing.T) {
	for _, c := range []struct {
		l parts
		p pixel.Pixel
	}{
		{parts{}, 0}, {parts{0, 0, 0, 1}, 0x00000001}, {parts{0, 0, 1, 1}, 0x00000101}, {parts{0, 1, 0, 1}, 0x00010001}, {parts{1, 0, 0, 1}, 0x01000001},
		{parts{255, 255, 255, 255}, 0xffffffff}, {parts{0, 0, 0, 255}, 0x000000ff}, {parts{1, 2, 3, 4}, 0x01020304}, {parts{255, 128, 127, 255}, 0xff807fff},
	} {
		p, ok := pixel.Of(c.l[0], c.l[1], c.l[2], c.l[3])
		if p != c.p || !ok || partsOf(c.p) != c.l {
			t.Errorf("Of %d: %08x, %v; Parts of %08x: %d", c.l, p, ok, c.p, partsOf(c.p))
		}
	}
}

// P9.1: Of all parts from just below 0 to just above 255, of which two are the same; and of three that stand at the edges.
func TestOf(t *testing.T) {
	of := func(l parts) {
		t.Helper()
		want := pixel.Pixel(0)
		if l.right() {
			want = pixelOf(l)
		}
		if p, ok := pixel.Of(l[0], l[1], l[2], l[3]); p != want || ok != l.right() {
			t.Fatalf("Of %d: %08x, %v", l, p, ok)
		}
	}
	for a := -2; a < 259; a++ {
		for x := -2; x < 259; x++ {
			for _, other := range []int{-1, 0, a - 1, a, a + 1} {
				of(parts{x, other, other, a})
				of(parts{other, x, other, a})
				of(parts{other, other, x, a})
			}
		}
	}
	edges := []int{-1, 0, 1, 2, 127, 128, 254, 255, 256}
	for _, r := range edges {
		for _, g := range edges {
			for _, b := range edges {
				for _, a := range edges {
					of(parts{r, g, b, a})
				}
			}
		}
	}
}

// wrongParts is such as are far from 0 to 255, some of them the same as a right one in their lowest bits.
func wrongParts() []int {
	return []int{-1, 256, 257, 511, -128, -255, -256, -257, 1 << 16, 1<<16 + 1, 1 << 32, 1<<32 + 1, -1 << 32, 1 - 1<<32, 1 << 62, math.MaxInt, math.MinInt, math.MinInt + 1}
}

// P9.1: a part that isn't one, at each place.
func TestOfWrongParts(t *testing.T) {
	for _, x := range wrongParts() {
		for _, l := range []parts{{}, {1, 1, 1, 1}, {1, 2, 3, 255}, {255, 255, 255, 255}, {x, x, x, x}} {
			for place := range l {
				l := l
				l[place] = x
				if p, ok := pixel.Of(l[0], l[1], l[2], l[3]); p != 0 || ok {
					t.Errorf("Of %d: %08x, %v", l, p, ok)
				}
			}
		}
	}
}

// P9.1: Parts and Right of any pixel; Of its parts is the same one, if it is right.
func TestRight(t *testing.T) {
	check := func(p pixel.Pixel) {
		t.Helper()
		l := partsOf(p)
		if l != (parts{int(p / 0x1000000), int(p / 0x10000 % 256), int(p / 256 % 256), int(p % 256)}) || p.Right() != l.right() {
			t.Fatalf("%08x: Parts %d, Right %v", p, l, p.Right())
		}
		q, ok := pixel.Of(l[0], l[1], l[2], l[3])
		if ok != p.Right() || ok && q != p || !ok && q != 0 {
			t.Fatalf("Of %d: %08x, %v", l, q, ok)
		}
	}
	for a := range 256 {
		for x := range 256 {
			for place := range 3 {
				l := parts{0, a / 2, a, a}
				l[place] = x
				check(pixelOf(l))
			}
		}
	}
	next := noise.Numbers(1)
	for range 200000 {
		check(pixel.Pixel(next()))
		check(noise.Pixel(next))
	}
}

// P9.1: By of all parts, the nearest whole number, and one by hand at each kind of edge.
func TestByOfParts(t *testing.T) {
	m := plainProducts()
	for p := range 256 {
		for q := range 256 {
			x := pixel.By(p, q)
			if x != m[p][q] || 2*far(p*q, 255*x) >= 255 || x > min(p, q) {
				t.Fatalf("By(%d, %d): %d, not %d", p, q, x, m[p][q])
			}
		}
	}
	for _, c := range [][3]int{{0, 0, 0}, {255, 0, 0}, {0, 255, 0}, {255, 255, 255}, {1, 127, 0}, {127, 1, 0}, {1, 128, 1}, {128, 1, 1}, {255, 254, 254}, {254, 254, 253}, {128, 128, 64}, {127, 127, 63}, {128, 127, 64}, {2, 64, 1}, {2, 63, 0}} {
		if x := pixel.By(c[0], c[1]); x != c[2] {
			t.Errorf("By(%d, %d): %d, not %d", c[0], c[1], x, c[2])
		}
	}
}

// P9.2: each part of a right pixel, at each place, by each part.
func TestBy(t *testing.T) {
	m := plainProducts()
	for a := range 256 {
		for q := range 256 {
			l := parts{a, a / 2, a / 3, a}
			same(t, pixelOf(l).By(q), m.by(l, q))
		}
	}
	next := noise.Numbers(2)
	for range 200000 {
		p := noise.Pixel(next)
		var l [6]int
		for k := range l {
			l[k] = int(next()>>(next()%8)) & 255
		}
		n := next() % 7
		same(t, p.By(l[:n]...), m.by(partsOf(p), l[:n]...))
	}
}

// P9.2: the parts are done one behind the other, each rounded; none leaves the pixel.
func TestByOneBehindTheOther(t *testing.T) {
	for _, c := range []struct {
		p    pixel.Pixel
		by   []int
		want pixel.Pixel
	}{
		{0x80402080, nil, 0x80402080}, {0x80402080, []int{}, 0x80402080}, {0x80402080, []int{255, 255, 255}, 0x80402080}, {0x80402080, []int{0}, 0}, {0x80402080, []int{255, 0, 255}, 0},
		{0x80402080, []int{128, 255}, 0x40201040},
		// 1 stays 1 by 128; by 64, what both come to, it would be 0.
		{0x01010101, []int{128, 128}, 0x01010101}, {0x01010101, []int{64}, 0},
		// 3 by 85 is 1, and that by 127 is 0; 3 by 128 is 2, and that by 85 is 1.
		{0x03000003, []int{85, 127}, 0}, {0x03000003, []int{128, 85}, 0x01000001},
	} {
		if p := c.p.By(c.by...); p != c.want {
			t.Errorf("%08x By(%d): %08x, not %08x", c.p, c.by, p, c.want)
		}
	}
}

// P9.2: each part of a right pixel with each A, over each part.
func TestOverOfAllParts(t *testing.T) {
	m := plainProducts()
	for a := range 256 {
		for x := 0; x <= a; x++ {
			s := pixelOf(parts{x, a - x, x / 2, a})
			for d := range 256 {
				below := parts{d, d, d, max(d, 255-x)}
				if got := s.Over(pixelOf(below)); got != pixelOf(m.over(partsOf(s), below)) || !got.Right() {
					t.Fatalf("%08x over %08x: %08x", s, pixelOf(below), got)
				}
			}
		}
	}
}

// P9.2: any number, one over the other, from the first one down, or from the last one; all are right.
func TestOverAndStack(t *testing.T) {
	m, next := plainProducts(), noise.Numbers(3)
	for range 100000 {
		l := make([]pixel.Pixel, next()%7)
		for k := range l {
			l[k] = noise.Pixel(next)
		}
		given, p := slices.Clone(l), noise.Pixel(next)
		same(t, p.Over(l...), m.overAll(partsOf(p), l))
		same(t, pixel.Stack(l...), m.stack(l))
		if !slices.Equal(l, given) {
			t.Fatalf("%08x, left of %08x", l, given)
		}
	}
}

// P9.2: Over and Stack by hand: what covers all, what covers nothing, and the order.
func TestOverAndStackByHand(t *testing.T) {
	const blue, red, half, clear = 0x0000ffff, 0xff0000ff, 0x80000080, 0
	for _, c := range []struct {
		p    pixel.Pixel
		l    []pixel.Pixel
		want pixel.Pixel
	}{
		{half, nil, half}, {half, []pixel.Pixel{}, half}, {clear, nil, clear},
		{half, []pixel.Pixel{blue}, 0x80007fff}, {blue, []pixel.Pixel{half}, blue}, {half, []pixel.Pixel{blue, red}, 0x80007fff}, {half, []pixel.Pixel{red, blue}, red},
		{clear, []pixel.Pixel{half}, half}, {half, []pixel.Pixel{clear}, half}, {clear, []pixel.Pixel{clear, half, clear, blue}, 0x80007fff},
		{half, []pixel.Pixel{half}, 0xc00000c0}, {half, []pixel.Pixel{half, half}, 0xe00000e0},
		{0x00000001, []pixel.Pixel{0xffffffff}, 0xfefefeff}, {0x01010101, []pixel.Pixel{0xffffffff}, 0xffffffff}, {0x000000fe, []pixel.Pixel{0x80ff7fff}, 0x010100ff},
	} {
		if p := c.p.Over(c.l...); p != c.want {
			t.Errorf("%08x Over(%08x): %08x, not %08x", c.p, c.l, p, c.want)
		}
		// From below on, of two at most the same.
		below := append([]pixel.Pixel{c.p}, c.l...)
		slices.Reverse(below)
		if p := pixel.Stack(below...); p != c.want && len(below) < 3 {
			t.Errorf("Stack(%08x): %08x, not %08x", below, p, c.want)
		}
	}
	if pixel.Stack() != 0 || pixel.Stack(nil...) != 0 || pixel.Stack(clear, clear) != 0 || pixel.Stack(half) != half {
		t.Errorf("Stack: %08x, %08x", pixel.Stack(), pixel.Stack(half))
	}
	if p := pixel.Stack(blue, half); p != 0x80007fff {
		t.Errorf("Stack of the lower one first: %08x", p)
	}
	if p := pixel.Stack(half, blue); p != blue {
		t.Errorf("Stack of the upper one first: %08x", p)
	}
}

// P9.2: each step is rounded, so that three from above on aren't always the same as three from below on.
func TestOverRoundsEachStep(t *testing.T) {
	m, next := plainProducts(), noise.Numbers(4)
	others := 0
	for range 10000 {
		p, q, r := noise.Pixel(next), noise.Pixel(next), noise.Pixel(next)
		down, up := p.Over(q, r), pixel.Stack(r, q, p)
		same(t, down, m.over(m.over(partsOf(p), partsOf(q)), partsOf(r)))
		same(t, up, m.over(partsOf(p), m.over(partsOf(q), partsOf(r))))
		if down != up {
			others++
		}
	}
	if others < 100 {
		t.Errorf("only %d of 10000 tell both ways apart", others)
	}
}

// P9.2: many, one over the other, stay right, and are what the words say.
func TestMany(t *testing.T) {
	m, next := plainProducts(), noise.Numbers(5)
	l, by := make([]pixel.Pixel, 5000), make([]int, 5000)
	for k := range l {
		l[k], by[k] = noise.Pixel(next), 255-int(next()%2)
	}
	same(t, l[0].Over(l[1:]...), m.overAll(partsOf(l[0]), l[1:]))
	same(t, pixel.Stack(l...), m.stack(l))
	same(t, pixel.Pixel(0xffffffff).By(by...), m.by(parts{255, 255, 255, 255}, by...))
	// Thin ones heap up.
	for k := range l {
		l[k] = pixel.Pixel(0x01000101)
	}
	same(t, l[0].Over(l...), m.overAll(partsOf(l[0]), l))
	same(t, pixel.Stack(l...), m.stack(l))
}

// What isn't a part is no cover: a part by it, and it by a part, is 0, so that By's pixels are right whatever it is given.
func TestByOfWrongParts(t *testing.T) {
	for _, x := range wrongParts() {
		for _, q := range []int{0, 1, 255, x} {
			if pixel.By(x, q) != 0 || pixel.By(q, x) != 0 {
				t.Errorf("By(%d, %d): %d, %d", x, q, pixel.By(x, q), pixel.By(q, x))
			}
		}
		if p := pixel.Pixel(0xffffffff).By(x); p != 0 {
			t.Errorf("By(%d): %08x", x, p)
		}
	}
}

// P1: no call panics at pixels and parts of which nothing else is promised, and each tells the same again.
func TestAllArguments(t *testing.T) {
	next := noise.Numbers(6)
	wrong := append(wrongParts(), 0, 1, 255)
	some := func() int { return wrong[next()%uint64(len(wrong))] }
	for range 50000 {
		p, l, by := pixel.Pixel(next()), []pixel.Pixel{pixel.Pixel(next()), noise.Pixel(next), pixel.Pixel(next())}, []int{some(), some()}
		if p.Over(l...) != p.Over(l...) || pixel.Stack(l...) != pixel.Stack(l...) || p.By(by...) != p.By(by...) || pixel.By(by[0], by[1]) != pixel.By(by[0], by[1]) {
			t.Fatalf("%08x, %08x, %d", p, l, by)
		}
		pixel.Of(some(), some(), some(), some())
	}
}
