package flat_test

import (
	"slices"
	"testing"

	"mutoscope/affine"
	"mutoscope/api"
	"mutoscope/flat"
	"mutoscope/node"
	"mutoscope/noise"
	"mutoscope/pixel"
	"mutoscope/rect"
	"mutoscope/scene"
	"mutoscope/scenery"
)

// ids is the ids of items.
func ids(l []flat.Item) []int {
	var all []int
	for _, i := range l {
		all = append(all, i.Id)
	}
	return all
}

// P14.1: a scene in which nothing is shown.
func TestNone(t *testing.T) {
	for k, l := range [][]node.Node{
		{node.Plain()}, {node.Plain(), node.Plain()}, {clipped(affine.One(), rect.Of(0, 0, 1, 1))},
		{scenery.With(func(n *node.Node) { n.Hidden, n.Look = true, node.FillOf(1, 1, 255) })}, {scenery.Filled(affine.Map{}, 1, 1)}, {scenery.With(func(n *node.Node) { n.Opacity, n.Look = 0, node.FillOf(1, 1, 255) })},
	} {
		if got := flat.List(made(t, l...)); len(got) != 0 {
			t.Errorf("%d: %v", k, got)
		}
	}
}

// P14.1: the order is that of the walk, whatever the ids are, and wherever the nodes lie.
func TestOrder(t *testing.T) {
	s, _ := scene.New(8, 8, 20)
	fill := node.FillOf(1, 1, 255)
	do(t, s, scene.Op{Kind: scene.SetLook, Look: fill})
	for _, o := range []scene.Op{{Id: 5}, {Id: 7}, {Id: 6, Parent: 5}, {Id: 9, Parent: 7}, {Id: 2, Parent: 7}, {Id: 8, Parent: 2}, {Id: 1, Place: 2}, {Id: 3, Place: 1}} {
		do(t, s, scene.Op{Kind: scene.Create, Id: o.Id, Parent: o.Parent, Place: o.Place}, scene.Op{Kind: scene.SetLook, Id: o.Id, Look: fill})
	}
	steps := []struct {
		ops  []scene.Op
		want []int
	}{
		{nil, []int{0, 7, 2, 8, 9, 3, 5, 6, 1}},
		{[]scene.Op{{Kind: scene.Move, Id: 7, Place: 3}}, []int{0, 3, 5, 6, 1, 7, 2, 8, 9}},
		{[]scene.Op{{Kind: scene.SetLook, Id: 7}}, []int{0, 3, 5, 6, 1, 2, 8, 9}},
		{[]scene.Op{{Kind: scene.SetHidden, Id: 2, On: true}}, []int{0, 3, 5, 6, 1, 9}},
		{[]scene.Op{{Kind: scene.Move, Id: 8, Parent: 3}}, []int{0, 3, 8, 5, 6, 1, 9}},
		{[]scene.Op{{Kind: scene.Delete, Id: 5}}, []int{0, 3, 8, 1, 9}},
		{[]scene.Op{{Kind: scene.SetHidden, Id: 2}}, []int{0, 3, 8, 1, 2, 9}},
		{[]scene.Op{{Kind: scene.SetOpacity, N: 0}}, nil},
		{[]scene.Op{{Kind: scene.SetOpacity, N: 1}, {Kind: scene.SetMap, Id: 3}}, []int{0, 1, 2, 9}},
	}
	for k, c := range steps {
		do(t, s, c.ops...)
		if l := listed(t, s); !slices.Equal(ids(l), c.want) {
			t.Errorf("%d: %v, not %v", k, ids(l), c.want)
		}
	}
}

// somes is nodes that differ each in another thing from one that shows a fill.
func somes() []node.Node {
	change := func(f func(n *node.Node)) node.Node {
		n := scenery.With(func(n *node.Node) { n.Look = node.FillOf(2, 2, 0x10ff) })
		f(&n)
		return n
	}
	return []node.Node{
		change(func(n *node.Node) {}), change(func(n *node.Node) { n.Look = node.Look{} }), change(func(n *node.Node) { n.Hidden = true }),
		change(func(n *node.Node) { n.Opacity = 0 }), change(func(n *node.Node) { n.Opacity = 1 }), change(func(n *node.Node) { n.Opacity = 127 }), change(func(n *node.Node) { n.Opacity = 128 }), change(func(n *node.Node) { n.Opacity = 200 }),
		change(func(n *node.Node) { n.Map = affine.Scale(one, 0) }), change(func(n *node.Node) { n.Map = affine.Scale(one/2, 8) }), change(func(n *node.Node) { n.Map = affine.Scale(4, 4) }), change(func(n *node.Node) { n.Map = affine.Scale(2*one, 20*one) }), change(func(n *node.Node) { n.Map = affine.Shift(one, 3) }),
		change(func(n *node.Node) { n.Clipped, n.Clip = true, rect.Of(1, 0, 2, 2) }), change(func(n *node.Node) { n.Clipped, n.Clip, n.Look = true, rect.Rect{X0: 1}, node.Look{} }), change(func(n *node.Node) { n.Clipped, n.Hidden = true, true }),
	}
}

// P14.1: each row of three such nodes, one in the other: which of them are shown, and what comes down to them.
func TestRows(t *testing.T) {
	count := map[int]int{}
	for _, a := range somes() {
		for _, b := range somes() {
			s := made(t, a, b, node.Plain())
			for _, c := range somes() {
				do(t, s, scenery.Set(2, c)...)
				count[len(listed(t, s))]++
			}
		}
	}
	for n, least := range []int{1000, 300, 300, 200} {
		if count[n] < least {
			t.Errorf("%d scenes of %d items", count[n], n)
		}
	}
}

// P14.1: opacities are rounded from the root down, one behind the other: other ways round would tell others.
func TestOpacityOrder(t *testing.T) {
	o := func(n int) node.Node {
		return scenery.With(func(x *node.Node) { x.Opacity, x.Look = n, node.FillOf(1, 1, 255) })
	}
	differ := 0
	for _, a := range []int{1, 2, 3, 100, 127, 128, 254, 255} {
		for _, b := range []int{1, 2, 90, 127, 128, 129, 191, 254, 255} {
			for _, c := range []int{1, 64, 127, 128, 200, 254, 255} {
				l := listed(t, made(t, o(a), o(b), o(c)))
				want := plainBy(plainBy(a, b), c)
				if n := len(l); want != 0 && (n != 3 || l[2].Opacity != want) || want == 0 && n == 3 {
					t.Errorf("%d, %d, %d: %v, not %d", a, b, c, l, want)
				}
				if want != plainBy(a, plainBy(b, c)) {
					differ++
				}
			}
		}
	}
	if differ < 20 {
		t.Errorf("%d differ", differ)
	}
}

// P14.1: worlds about the bounds of those that have a way back, which is asked of the world, not of the node's own map.
func TestWaysBack(t *testing.T) {
	for k, c := range []struct {
		l    []affine.Map
		want []int
	}{
		{[]affine.Map{affine.Scale(4, 4)}, []int{0}}, {[]affine.Map{affine.Scale(3, 3)}, nil}, {[]affine.Map{affine.Scale(4, 3)}, nil}, {[]affine.Map{affine.Scale(-4, 4)}, []int{0}}, {[]affine.Map{affine.Scale(0, one)}, nil},
		{[]affine.Map{affine.Scale(one, one/8), affine.Scale(one, 32)}, []int{0, 1}}, {[]affine.Map{affine.Scale(one, one/8), affine.Scale(one, 24)}, []int{0}}, {[]affine.Map{affine.Scale(one, 16), affine.Scale(one, 1)}, []int{0}},
		{[]affine.Map{affine.Scale(one, 8*one), affine.Scale(one, 1)}, []int{0, 1}}, {[]affine.Map{affine.Scale(one, 2), affine.Scale(one, 8*one)}, nil}, {[]affine.Map{{A: one, B: one, C: one, D: one}, affine.One()}, nil},
		{[]affine.Map{affine.One(), {A: one, B: 2 * one, C: one, D: 2 * one}, affine.One()}, []int{0}}, {[]affine.Map{affine.Scale(1<<30, 1<<30)}, []int{0}}, {[]affine.Map{affine.Shift(1<<30, -1<<30), affine.Turn(1)}, []int{0, 1}},
	} {
		var l []node.Node
		for _, m := range c.l {
			l = append(l, scenery.Filled(m, 1, 1))
		}
		if got := listed(t, made(t, l...)); !slices.Equal(ids(got), c.want) {
			t.Errorf("%d: %v, not %v", k, ids(got), c.want)
		}
	}
}

// P14.1: each look, each image as it is.
func TestLooks(t *testing.T) {
	next := noise.Numbers(3)
	for _, look := range []node.Look{node.FillOf(1, 1, 0), node.FillOf(4096, 4096, 0xffffffff), node.ImageOf(noise.Image(next, 1, 1)), node.ImageOf(noise.Image(next, 256, 256)), node.ImageOf(noise.Image(next, 1, 256))} {
		l := listed(t, made(t, node.Plain(), scenery.With(func(n *node.Node) { n.Look = look })))
		if len(l) != 1 || l[0].Id != 1 || !sameLook(l[0].Look, look) {
			t.Errorf("%v", l)
		}
	}
}

// P14.1: a scene that is changed, again and again, is listed as it is then.
func TestChanges(t *testing.T) {
	for seed := range uint64(8) {
		next := noise.Numbers(seed)
		s := scenery.Scene(next, 9, 9, 24)
		for range 150 {
			s.Apply(scenery.Op(next, s))
			listed(t, s)
		}
	}
}

// chain is all nodes that there may be, each in the one ahead of it, as f sets them.
func chain(t *testing.T, f func(id int) []scene.Op) *scene.Scene {
	t.Helper()
	s, _ := scene.New(8, 8, api.MaxNodes)
	do(t, s, f(0)...)
	for id := 1; id < api.MaxNodes; {
		var l []scene.Op
		for ; len(l) < api.MaxOps-2 && id < api.MaxNodes; id++ {
			l = append(append(l, scene.Op{Kind: scene.Create, Id: id, Parent: id - 1}), f(id)...)
		}
		do(t, s, l...)
	}
	return s
}

// P14.1, P14.2: the deepest scene, of which each node is clipped: its last one has as many clips.
func TestDeepest(t *testing.T) {
	const last = api.MaxNodes - 1
	s := chain(t, func(id int) []scene.Op {
		return []scene.Op{{Kind: scene.SetClip, Id: id, On: true, Clip: rect.Of(0, 0, 2, 1+id%4096)}}
	})
	do(t, s, scene.Op{Kind: scene.SetLook, Id: last, Look: node.FillOf(3, 3, 0x10ff)}, scene.Op{Kind: scene.SetClip}, scene.Op{Kind: scene.SetOpacity, Id: 9, N: 128})
	l := flat.List(s)
	if len(l) != 1 || l[0].Id != last || l[0].Opacity != 128 || len(l[0].Clips) != last {
		t.Fatalf("%d items", len(l))
	}
	back, _ := affine.One().Back()
	for k, c := range l[0].Clips {
		if c != (flat.Clip{Back: back, Rect: rect.Of(0, 0, 2, 1+(k+1)%4096)}) {
			t.Fatalf("clip %d: %v", k, c)
		}
	}
	// The ids that 4096 divides have a clip of one line.
	for k, want := range []pixel.Pixel{0x0880, 0x0880, 0} {
		if p := l[0].At(k, 0); p != want || l[0].Covers(k, 0) != (want != 0) || l[0].At(k, 1) != 0 {
			t.Errorf("At(%d, 0): %08x", k, p)
		}
	}
	for _, o := range []scene.Op{{Kind: scene.SetHidden, Id: 1, On: true}, {Kind: scene.SetOpacity, Id: 2}, {Kind: scene.SetMap, Id: 3}} {
		do(t, s, o)
		if l := flat.List(s); len(l) != 0 {
			t.Errorf("%v: %d items", o, len(l))
		}
	}
}

// P14.1: the deepest scene, of which each node has a look.
func TestDeepestShown(t *testing.T) {
	s := chain(t, func(id int) []scene.Op {
		return []scene.Op{{Kind: scene.SetLook, Id: id, Look: node.FillOf(1+id%4096, 1, 0xff)}}
	})
	do(t, s, scene.Op{Kind: scene.SetClip, On: true, Clip: rect.Of(0, 0, 2, 2)})
	l := flat.List(s)
	if len(l) != api.MaxNodes {
		t.Fatalf("%d items", len(l))
	}
	for id, i := range l {
		if i.Id != id || len(i.Clips) != 1 || i.Opacity != 255 || i.Look.W != 1+id%4096 {
			t.Fatalf("%v", i)
		}
	}
}

// P14.1: the widest scene: all lie in the root.
func TestWidest(t *testing.T) {
	s, _ := scene.New(8, 8, api.MaxNodes)
	do(t, s, scenery.Set(0, clipped(affine.Shift(one, 0), rect.Of(0, 0, 2, 2)))...)
	for id := 1; id < api.MaxNodes; {
		var l []scene.Op
		for ; len(l) < api.MaxOps-1 && id < api.MaxNodes; id++ {
			l = append(l, scene.Op{Kind: scene.Create, Id: id, Place: id - 1}, scene.Op{Kind: scene.SetLook, Id: id, Look: node.FillOf(1, 2, pixel.Pixel(id%256))})
		}
		do(t, s, l...)
	}
	l := flat.List(s)
	if len(l) != api.MaxNodes-1 {
		t.Fatalf("%d items", len(l))
	}
	for k, i := range l {
		if i.Id != k+1 || len(i.Clips) != 1 || i.At(1, 1) != pixel.Pixel(i.Id%256) || !i.Covers(1, 0) || i.Covers(0, 0) {
			t.Fatalf("%v", i)
		}
	}
}
