package node_test

import (
	"reflect"
	"slices"
	"testing"

	"mutoscope/affine"
	"mutoscope/api"
	"mutoscope/image"
	"mutoscope/node"
	"mutoscope/noise"
	"mutoscope/pixel"
	"mutoscope/rect"
)

// The calls and types that the chapter lists, by their signatures.
var (
	_ func() node.Node                        = node.Plain
	_ func(w, h int, c pixel.Pixel) node.Look = node.FillOf
	_ func(m image.Image) node.Look           = node.ImageOf
	_ func(l node.Look) api.Errno             = node.Look.Check
	_ func(l node.Look) (w, h int)            = node.Look.Size
	_ func(l node.Look, x, y int) pixel.Pixel = node.Look.At
	_ func(n node.Node) api.Errno             = node.Node.Check
	_ func(n node.Node) node.Node             = node.Node.Copy
	_ func(a, b node.Node) bool               = node.Equal
	_ struct {
		Kind  int
		W, H  int
		Color pixel.Pixel
		Image image.Image
	} = node.Look{}
	_ struct {
		Map     affine.Map
		Opacity int
		Hidden  bool
		Clipped bool
		Clip    rect.Rect
		Look    node.Look
	} = node.Node{}
)

// P11.1: Plain is a node of One, of Opacity 255, bare, and nothing else; two of them share nothing.
func TestPlain(t *testing.T) {
	n := node.Plain()
	want := [19]int{65536, 0, 0, 65536, 0, 0, 255}
	if numbersOf(n) != want || len(n.Look.Image.Pixels) != 0 || n.Map != affine.One() || n.Check() != api.OK {
		t.Errorf("%v, Check %d", n, n.Check())
	}
	n.Opacity, n.Look = 1, node.FillOf(1, 1, 0)
	if numbersOf(node.Plain()) != want {
		t.Errorf("%v behind another one", node.Plain())
	}
}

// P11.1: Check of nodes with each map, opacity, clip, and look, hidden or not.
func TestCheckOfNodes(t *testing.T) {
	count := map[api.Errno]int{}
	for _, m := range maps() {
		for _, opacity := range opacities() {
			for _, clip := range clips() {
				for k, l := range looks() {
					n := node.Node{Map: m, Opacity: opacity, Hidden: k%2 == 0, Clip: clip, Look: l}
					for range 2 {
						want := plainNode(n)
						if e := n.Check(); e != want {
							t.Fatalf("%v: %d, not %d", n, e, want)
						}
						count[want]++
						n.Clipped = true
					}
				}
			}
		}
	}
	if count[api.OK] < 1000 || count[api.ErrForm] < 1000 || count[api.ErrRange] < 1000 {
		t.Errorf("asked of too few: %v", count)
	}
}

// P11.1: Check by hand: ErrRange of map, opacity and clip is named first, then ErrForm of the clip, then the look's.
func TestCheckOfNodesByHand(t *testing.T) {
	over := node.Look{Kind: 3}
	formless := node.Look{W: 1}
	for k, c := range []struct {
		n node.Node
		e api.Errno
	}{
		{node.Node{}, api.OK}, {node.Node{Opacity: 255, Hidden: true}, api.OK}, {node.Node{Opacity: 256}, api.ErrRange}, {node.Node{Opacity: -1}, api.ErrRange},
		{node.Node{Map: affine.Shift(0, 1<<30)}, api.OK}, {node.Node{Map: affine.Shift(0, 1<<30+1)}, api.ErrRange}, {node.Node{Map: affine.Shift(-1<<30-1, 0)}, api.ErrRange},
		{node.Node{Clipped: true}, api.OK}, {node.Node{Clipped: true, Clip: rect.Rect{X0: -16384, Y0: 16384, X1: 16384, Y1: -16384}}, api.OK}, {node.Node{Clipped: true, Clip: rect.Rect{Y0: -16385}}, api.ErrRange}, {node.Node{Clipped: true, Clip: rect.Rect{X1: 16385}}, api.ErrRange},
		{node.Node{Clip: rect.Rect{X1: 1, Y1: 1}}, api.ErrForm}, {node.Node{Clip: rect.Rect{Y1: 1}}, api.ErrForm}, {node.Node{Clip: rect.Rect{X0: 7, Y0: 7, X1: 7, Y1: 7}}, api.ErrForm}, {node.Node{Clip: rect.Rect{X1: 16385}}, api.ErrForm},
		{node.Node{Look: over}, api.ErrRange}, {node.Node{Look: formless}, api.ErrForm}, {node.Node{Clip: rect.Rect{X1: 1}, Look: over}, api.ErrForm}, {node.Node{Clipped: true, Clip: rect.Rect{X1: 1}, Look: over}, api.ErrRange}, {node.Node{Clipped: true, Clip: rect.Rect{X1: 1}, Look: formless}, api.ErrForm},
		{node.Node{Opacity: 256, Clip: rect.Rect{X1: 1}}, api.ErrRange}, {node.Node{Opacity: -1, Look: formless}, api.ErrRange}, {node.Node{Map: affine.Scale(1<<31, 0), Clip: rect.Rect{X1: 1}, Look: formless}, api.ErrRange}, {node.Node{Clipped: true, Clip: rect.Rect{X1: 16385}, Look: formless}, api.ErrRange},
	} {
		if e := c.n.Check(); e != c.e {
			t.Errorf("%d: Check %d, not %d", k, e, c.e)
		}
	}
}

// someNodes is nodes of all kinds of parts, right or not.
func someNodes() []node.Node {
	l := []node.Node{{}, node.Plain()}
	m, o, c := maps(), opacities(), clips()
	for k := range 60 {
		look := looks()[k%len(looks())]
		l = append(l, node.Node{Map: m[k%len(m)], Opacity: o[k%len(o)], Hidden: k%2 == 1, Clipped: k%3 == 1, Clip: c[k%len(c)], Look: look})
	}
	for _, m := range images() {
		n := node.Plain()
		n.Look.Image = m
		l = append(l, n)
	}
	return l
}

// P11.2: Copy of any node is the same, and neither is changed with the other, their spare room neither.
func TestCopy(t *testing.T) {
	for k, n := range someNodes() {
		was := n
		in, all := roomy(n.Look.Image.Pixels)
		wasAll := slices.Clone(all)
		n.Look.Image.Pixels = in
		c := n.Copy()
		if !plainEqual(c, was) || !plainEqual(n, was) || c.Check() != was.Check() {
			t.Fatalf("%d: Copy of %v: %v", k, was, c)
		}
		spoil(c.Look.Image.Pixels)
		if !slices.Equal(all, wasAll) {
			t.Fatalf("%d: what Copy told is shared", k)
		}
		c = n.Copy()
		spoil(all)
		if !plainEqual(c, was) {
			t.Fatalf("%d: what Copy was asked of is kept", k)
		}
	}
}

// P11.2: Equal of each two of any nodes.
func TestEqualOfPairs(t *testing.T) {
	l := someNodes()
	same := 0
	for _, a := range l {
		for _, b := range l {
			want := plainEqual(a, b)
			if node.Equal(a, b) != want {
				t.Fatalf("Equal(%v, %v): not %v", a, b, want)
			}
			same += number(want)
		}
	}
	if same < len(l) {
		t.Errorf("%d of %d are the same", same, len(l))
	}
}

// leaves is all numbers and bools in v, those of its lists too.
func leaves(v reflect.Value) []reflect.Value {
	var l []reflect.Value
	switch v.Kind() {
	case reflect.Struct:
		for k := range v.NumField() {
			l = append(l, leaves(v.Field(k))...)
		}
	case reflect.Slice:
		for k := range v.Len() {
			l = append(l, leaves(v.Index(k))...)
		}
	default:
		l = append(l, v)
	}
	return l
}

// turn turns one bit of a leaf, and tells if it has that bit.
func turn(v reflect.Value, bit int) bool {
	switch {
	case v.Kind() == reflect.Bool:
		v.SetBool(!v.Bool())
		return bit == 0
	case v.CanInt():
		v.SetInt(v.Int() ^ 1<<bit)
	default:
		v.SetUint(v.Uint() ^ 1<<bit)
	}
	return bit < v.Type().Bits()
}

// P11.2: Equal of nodes that differ in one bit of one number, each of them, right or not.
func TestEqualOfEachBit(t *testing.T) {
	turned := 0
	for _, n := range someNodes() {
		if len(n.Look.Image.Pixels) > 16 {
			continue
		}
		c := n.Copy()
		for _, leaf := range leaves(reflect.ValueOf(&c).Elem()) {
			was := reflect.New(leaf.Type()).Elem()
			was.Set(leaf)
			for bit := range 64 {
				if turn(leaf, bit) {
					turned++
					if node.Equal(n, c) || node.Equal(c, n) {
						t.Fatalf("%v and %v are Equal", n, c)
					}
				}
				leaf.Set(was)
			}
		}
		if !node.Equal(n, c) {
			t.Fatalf("%v and %v aren't Equal", n, c)
		}
	}
	if turned < 60*19*32 {
		t.Errorf("%d bits", turned)
	}
}

// P11.2: Equal of images of other sides, order, or number of pixels; nil and empty lists are one.
func TestEqualOfImages(t *testing.T) {
	of := func(w, h int, pixels ...pixel.Pixel) node.Node {
		n := node.Plain()
		n.Look = node.Look{Kind: node.Image, Image: image.Image{W: w, H: h, Pixels: pixels}}
		return n
	}
	for k, c := range []struct {
		a, b node.Node
		same bool
	}{
		{of(2, 1, 1, 2), of(2, 1, 1, 2), true}, {of(2, 1, 1, 2), of(2, 1, 2, 1), false}, {of(2, 1, 1, 2), of(1, 2, 1, 2), false}, {of(2, 1, 1, 2), of(2, 1, 1), false}, {of(2, 1, 1, 2), of(2, 1, 1, 2, 0), false}, {of(2, 1, 1, 2), of(2, 1), false},
		{of(0, 0), of(0, 0, []pixel.Pixel{}...), true}, {of(1, 1), of(1, 1, []pixel.Pixel{}...), true}, {of(1, 0), of(0, 1), false}, {of(0, 0), of(0, 0, 0), false}, {of(1, 1, 0x100), of(1, 1, 0x100), true},
	} {
		if node.Equal(c.a, c.b) != c.same || node.Equal(c.b, c.a) != c.same {
			t.Errorf("%d: Equal(%v, %v) isn't %v", k, c.a, c.b, c.same)
		}
	}
	great := of(0, 0)
	great.Look = node.ImageOf(noise.Image(noise.Numbers(5), 256, 256))
	for _, place := range []int{0, 1, 255, 256, 32768, 65534, 65535} {
		c := great.Copy()
		c.Look.Image.Pixels[place] ^= 1
		if node.Equal(great, c) || !node.Equal(great, great.Copy()) {
			t.Errorf("a pixel turned at %d: Equal %v", place, node.Equal(great, c))
		}
	}
}

// P1: no call panics at any node, right or not, and none of those that ask changes it.
func TestAllArguments(t *testing.T) {
	for k, n := range someNodes() {
		was := n.Copy()
		n.Check()
		n.Look.Check()
		n.Look.Size()
		for _, x := range sides() {
			for _, y := range sides() {
				n.Look.At(x, y)
			}
		}
		node.ImageOf(n.Look.Image)
		node.Equal(n, n.Copy())
		if !plainEqual(n, was) {
			t.Errorf("%d: %v is now %v", k, was, n)
		}
		// Another kind asks of what isn't its own.
		for _, kind := range kinds() {
			n.Look.Kind = kind
			n.Look.Size()
			for _, x := range sides() {
				n.Look.At(x, 0)
				n.Look.At(0, x)
			}
		}
	}
}
