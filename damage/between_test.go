package damage_test

import (
	"slices"
	"testing"

	"mutoscope/affine"
	"mutoscope/api"
	"mutoscope/damage"
	"mutoscope/flat"
	"mutoscope/image"
	"mutoscope/node"
	"mutoscope/noise"
	"mutoscope/pixel"
	"mutoscope/raster"
	"mutoscope/rect"
	"mutoscope/scene"
	"mutoscope/scenery"
	"mutoscope/small"
)

// P16.1, P16.2: the chapter's example.
func TestExample(t *testing.T) {
	frame := rect.Of(0, 0, 20, 20)
	l := flat.List(scenery.Of(20, 20, scenery.Filled(affine.One(), 12, 12), scenery.Filled(affine.Shift(7*one, 7*one), 3, 3), scenery.Filled(affine.Shift(8*one, 2*one), 5, 4)))
	for _, g := range []rect.Rect{damage.Between(l, l[:2], frame).Bound(), damage.Between(l[:2], l, frame).Bound()} {
		if g != rect.Of(8, 2, 13, 6) {
			t.Errorf("%v", g)
		}
	}
	had(t, l, l[:2], frame)
	had(t, l[:2], l, frame)
}

// P16.1, P16.2: by hand: one comes, goes, moves, has another colour; two are turned round, which meet, or don't.
func TestBetweenByHand(t *testing.T) {
	fill := func(x, w int, c pixel.Pixel) node.Node {
		return scenery.With(func(n *node.Node) { n.Map, n.Look = affine.Shift(int64(x)*one, 0), node.FillOf(w, 2, c) })
	}
	frame := rect.Of(0, 0, 20, 2)
	s := scenery.Of(20, 2, fill(0, 5, 0x101), fill(3, 5, 0x202), fill(12, 4, 0x303))
	a := flat.List(s)
	for k, c := range []struct {
		op   scene.Op
		want []rect.Rect
	}{
		{scene.Op{Kind: scene.Create, Id: 4, Place: 1}, nil},
		{scene.Op{Kind: scene.SetMap, Id: 3, Map: affine.Shift(15*one, 0)}, []rect.Rect{rect.Of(12, 0, 19, 2)}},
		{scene.Op{Kind: scene.SetMap, Id: 3, Map: affine.Shift(18*one, one)}, []rect.Rect{rect.Of(12, 0, 16, 2), rect.Of(18, 1, 20, 2)}},
		{scene.Op{Kind: scene.SetLook, Id: 1, Look: node.FillOf(5, 2, 0x404)}, []rect.Rect{rect.Of(0, 0, 5, 2)}},
		{scene.Op{Kind: scene.SetOpacity, Id: 2, N: 254}, []rect.Rect{rect.Of(3, 0, 8, 2)}},
		{scene.Op{Kind: scene.SetHidden, Id: 2, On: true}, []rect.Rect{rect.Of(3, 0, 8, 2)}},
		{scene.Op{Kind: scene.Delete, Id: 3}, []rect.Rect{rect.Of(12, 0, 16, 2)}},
		{scene.Op{Kind: scene.Move, Id: 1, Place: 1}, []rect.Rect{rect.Of(3, 0, 5, 2)}},
		{scene.Op{Kind: scene.Move, Id: 1, Place: 2}, []rect.Rect{rect.Of(3, 0, 5, 2)}},
		{scene.Op{Kind: scene.Move, Id: 3, Place: 0}, nil},
	} {
		z := s.Copy()
		do(t, z, c.op)
		g, _, _ := had(t, a, flat.List(z), frame)
		if l := slices.Collect(g.Each()); !slices.Equal(l, c.want) {
			t.Errorf("%d: %v, not %v", k, l, c.want)
		}
		g, _, _ = had(t, flat.List(z), a, frame)
		if l := slices.Collect(g.Each()); !slices.Equal(l, c.want) {
			t.Errorf("%d, back: %v, not %v", k, l, c.want)
		}
	}
}

// rows is all rows of some of l, each at most once.
func rows(l []flat.Item) [][]flat.Item {
	out := [][]flat.Item{nil}
	for k := range l {
		for _, r := range rows(slices.Delete(slices.Clone(l), k, k+1)) {
			out = append(out, append([]flat.Item{l[k]}, r...))
		}
	}
	return out
}

// P16.1, P16.2: each two rows of some of four items that lie one over the other, by parts, and all at one place.
func TestAllRows(t *testing.T) {
	at := func(x, y, w, h int, c pixel.Pixel) node.Node {
		return scenery.With(func(n *node.Node) {
			n.Map, n.Look = affine.Shift(int64(x)*one, int64(y)*one), node.FillOf(w, h, c)
		})
	}
	frame, total := rect.Of(0, 0, 5, 5), 0
	l := rows(flat.List(scenery.Of(5, 5, at(0, 0, 3, 3, 0x10000080), at(1, 1, 3, 3, 0x00100080), at(2, 0, 2, 5, 0x00001080), at(0, 2, 5, 1, 0x100000c0))))
	if len(l) != 65 {
		t.Fatalf("%d rows", len(l))
	}
	for _, a := range l {
		for _, b := range l {
			_, differ, has := had(t, a, b, frame)
			// Of these colours no two stacks are one.
			if differ != has {
				t.Fatalf("%v, %v: %d differ, %d are had", a, b, differ, has)
			}
			total += has
		}
	}
	if total < 20000 {
		t.Errorf("%d pixels", total)
	}
}

// P16.1, P16.2: a scene without a pattern, before and behind changes of it, in its own frame and in others.
func TestScenes(t *testing.T) {
	differ, has, all := 0, 0, 0
	for seed := range uint64(300) {
		next := noise.Numbers(seed)
		s := scenery.Scene(next, 14, 14, 2+int(seed%20))
		for range 6 {
			a := flat.List(s)
			for range 1 + next()%4 {
				s.Apply(scenery.Op(next, s))
			}
			x, y := int(next()%12)-3, int(next()%12)-3
			had(t, a, flat.List(s), rect.Of(x, y, x+int(next()%9), y+int(next()%9)))
			_, d, h := had(t, a, flat.List(s), rect.Of(0, 0, 14, 14))
			differ, has, all = differ+d, has+h, all+14*14
		}
	}
	if differ < 20000 || has < differ || has-differ > all/3 {
		t.Errorf("%d differ, %d are had, of %d", differ, has, all)
	}
}

// P16.1, P16.2: lists need be of no scene, nor of one: what they have in common stands in any order, and some of one id differ.
func TestMixedLists(t *testing.T) {
	differ, has := 0, 0
	for seed := range uint64(600) {
		next := noise.Numbers(1000 + seed)
		s := scenery.Scene(next, 12, 12, 16)
		a := mixed(next, flat.List(s))
		for range next() % 3 {
			s.Apply(scenery.Op(next, s))
		}
		b := mixed(next, flat.List(s))
		_, d, h := had(t, a, b, rect.Of(-1, -1, 13, 13))
		differ, has = differ+d, has+h
	}
	if differ < 8000 || has < differ {
		t.Errorf("%d differ, %d are had", differ, has)
	}
}

// mixed is most of l, in an order that isn't l's.
func mixed(next func() uint64, l []flat.Item) []flat.Item {
	l = slices.Clone(l)
	for range next() % 4 {
		if len(l) > 1 {
			k, n := int(next()%uint64(len(l))), int(next()%uint64(len(l)))
			i := l[k]
			l = slices.Insert(slices.Delete(l, k, k+1), min(n, len(l)-1), i)
		}
	}
	if len(l) > 0 && next()%3 == 0 {
		k := int(next() % uint64(len(l)))
		l = slices.Delete(l, k, k+1)
	}
	return l
}

// P16.2: between lists that are Equal there is none, whether they are one, or two of a scene and its copy.
func TestEqualLists(t *testing.T) {
	for seed := range uint64(60) {
		s := scenery.Scene(noise.Numbers(seed), 30, 20, 30)
		l, again := flat.List(s), flat.List(s.Copy())
		for _, frame := range []rect.Rect{rect.Of(0, 0, 30, 20), whole} {
			for _, g := range []rect.Rect{damage.Between(l, l, frame).Bound(), damage.Between(l, again, frame).Bound(), damage.Between(nil, []flat.Item{}, frame).Bound()} {
				if g != (rect.Rect{}) {
					t.Fatalf("seed %d: %v", seed, g)
				}
			}
		}
	}
}

// P16.1: one part of an item differs, each one in turn, and each of an image's pixels.
func TestEachPart(t *testing.T) {
	s := scenery.Of(8, 8, scenery.With(func(n *node.Node) { n.Clipped, n.Clip = true, rect.Of(0, 0, 7, 7) }))
	m := noise.Image(noise.Numbers(9), 4, 3)
	do(t, s, scenery.Put(2, 1, 0, scenery.With(func(n *node.Node) { n.Map, n.Look = affine.Shift(2*one, 2*one), node.ImageOf(m) }))...)
	a := flat.List(s)
	ops := []scene.Op{{Kind: scene.SetMap, Id: 2, Map: affine.Shift(3*one, 2*one)}, {Kind: scene.SetMap, Id: 1, Map: affine.Shift(0, one)}, {Kind: scene.SetClip, Id: 1, On: true, Clip: rect.Of(0, 0, 7, 4)}, {Kind: scene.SetClip, Id: 1}, {Kind: scene.SetClip, Id: 2, On: true, Clip: rect.Of(1, 1, 2, 2)}, {Kind: scene.SetOpacity, Id: 1, N: 100}, {Kind: scene.SetLook, Id: 2, Look: node.FillOf(4, 3, 0xff)}}
	for k := range m.Pixels {
		c := m.Copy()
		c.Pixels[k] = 0x010203ff
		ops = append(ops, scene.Op{Kind: scene.SetLook, Id: 2, Look: node.ImageOf(c)})
	}
	for k, o := range ops {
		z := s.Copy()
		do(t, z, o)
		if _, differ, _ := had(t, a, flat.List(z), rect.Of(0, 0, 8, 8)); differ == 0 && o.Kind != scene.SetClip {
			t.Errorf("%d: nothing differs", k)
		}
	}
}

// P16.1: each small frame, turned ones and those without pixels among them.
func TestFrames(t *testing.T) {
	next := noise.Numbers(4)
	s := scenery.Scene(next, 5, 5, 12)
	a := flat.List(s)
	for range 5 {
		s.Apply(scenery.Op(next, s))
	}
	b := mixed(next, flat.List(s))
	for _, frame := range small.Rects(-1, 4) {
		had(t, a, b, frame)
		if frame.Empty() {
			if g := damage.Between(a, b, frame); g.Area() != 0 || g.Bound() != (rect.Rect{}) {
				t.Fatalf("in %v: %v", frame, g.Bound())
			}
		}
	}
}

// P16.1, P16.2: at the corners of the greatest frame.
func TestFarFrames(t *testing.T) {
	for _, at := range [][2]int{{-16384, -16384}, {16375, -16384}, {-16384, 16375}, {16375, 16375}} {
		m := affine.Shift(int64(at[0])*one, int64(at[1])*one)
		n := scenery.With(func(n *node.Node) { n.Map = m })
		s := scenery.Of(1, 1, n)
		for k, r := range []rect.Rect{rect.Of(0, 0, 3, 4), rect.Of(2, 1, 9, 6), rect.Of(1, 3, 4, 12), rect.Of(0, 0, 9, 9)} {
			i := scenery.With(func(n *node.Node) {
				n.Map, n.Look = affine.Shift(int64(r.X0)*one, int64(r.Y0)*one), node.FillOf(r.X1-r.X0, r.Y1-r.Y0, pixel.Pixel(0x80+k))
			})
			do(t, s, scenery.Put(k+2, 1, k, i)...)
		}
		l := flat.List(s)
		frame := rect.Of(at[0], at[1], at[0]+8, at[1]+8)
		for _, a := range rows(l) {
			had(t, a, l, frame)
		}
		if g := damage.Between(l[:3], l, whole); g.Bound() != rect.Of(at[0], at[1], min(16383, at[0]+9), min(16383, at[1]+9)) {
			t.Errorf("at %v: %v", at, g.Bound())
		}
	}
}

// P16.1, P16.2: many that are all turned round, or by twos, or one of which goes to the other end: each block that is cut is right.
func TestManyTurned(t *testing.T) {
	differ := 0
	for seed := range uint64(24) {
		next := noise.Numbers(2000 + seed)
		side := 8 << (seed % 3)
		var nodes []node.Node
		for range 60 {
			w, h := 1+int(next()%uint64(side)), 1+int(next()%uint64(side))
			x, y := int(next()%32)-4, int(next()%32)-4
			nodes = append(nodes, scenery.With(func(n *node.Node) {
				n.Map, n.Look = affine.Shift(int64(x)*one, int64(y)*one), node.FillOf(w, h, noise.Pixel(next))
			}))
		}
		a := flat.List(scenery.Of(32, 32, nodes...))
		back := slices.Clone(a)
		slices.Reverse(back)
		twos := slices.Clone(a)
		for k := 0; k+1 < len(twos); k += 2 {
			twos[k], twos[k+1] = twos[k+1], twos[k]
		}
		up := append(slices.Clone(a[1:]), a[0])
		down := append([]flat.Item{a[59]}, a[:59]...)
		for _, b := range [][]flat.Item{back, twos, up, down} {
			_, d, _ := had(t, a, b, rect.Of(0, 0, 32, 32))
			differ += d
		}
	}
	if differ < 15000 {
		t.Errorf("%d differ", differ)
	}
}

// P16.1: what is painted where Between tells, is the picture, however long a row of changes is.
func TestPainted(t *testing.T) {
	painted, all := 0, 0
	for seed := range uint64(30) {
		next := noise.Numbers(3000 + seed)
		s := scenery.Scene(next, 30, 20, 30)
		m, shown := raster.Pix(s), flat.List(s)
		for range 30 {
			s.Apply(scenery.Op(next, s))
			l := flat.List(s)
			painted += raster.Paint(m, l, slices.Collect(damage.Between(shown, l, m.Frame()).Each())...)
			all += 30 * 20
			if shown = l; !image.Equal(m, raster.Pix(s)) {
				t.Fatalf("seed %d", seed)
			}
		}
	}
	if painted > all/2 {
		t.Errorf("%d of %d were painted", painted, all)
	}
}

// grid is n fills of that side, each a step further to the right, or in the next line.
func grid(t *testing.T, n, step, side int) []flat.Item {
	t.Helper()
	s := scenery.Of(1, 1)
	for id := 1; id <= n; {
		var ops []scene.Op
		for ; id <= n && len(ops) < 1000; id++ {
			x, y := int64((id-1)%256*step), int64((id-1)/256*step)
			ops = append(ops, scene.Op{Kind: scene.Create, Id: id, Place: id - 1}, scene.Op{Kind: scene.SetMap, Id: id, Map: affine.Shift(x*one, y*one)}, scene.Op{Kind: scene.SetLook, Id: id, Look: node.FillOf(side, side, pixel.Pixel(1+id%255))})
		}
		do(t, s, ops...)
	}
	return flat.List(s)
}

// One of a thousand nodes moves: few pixels are had.
func TestOneOfAThousand(t *testing.T) {
	a, frame := grid(t, 1000, 10, 30), rect.Of(0, 0, 2560, 2560)
	b := slices.Clone(a)
	i := item(t, affine.Shift(300*one, 7*one), 30, 30, everywhere)
	i.Id = b[500].Id
	b[500] = i
	if g := damage.Between(a, b, frame); g.Area() < 1500 || g.Area() > 1800 {
		t.Errorf("%d pixels", g.Area())
	}
	up := append(slices.Clone(a[1:]), a[0])
	if g := damage.Between(a, up, frame); g.Bound() != rect.Of(0, 0, 30, 30) {
		t.Errorf("%v", g.Bound())
	}
}

// P1, P16.2: very many items, and as many as there may be, of which all change, or are turned round, or one goes to the other end.
func TestLimits(t *testing.T) {
	frame := rect.Of(0, 0, 4096, 4096)
	for _, c := range []struct{ n, step, side, turned, all int }{
		{1 << 14, 16, 12, 0, 144 << 14},
		{1 << 12, 16, 17, 255*257 + 15*4096 - 255*15, 4096 * 257},
		{api.MaxNodes - 1, 1, 4096, 4096*4096 - 1, 4096 * 4096},
		{api.MaxNodes - 1, 0, 4096, 4096 * 4096, 4096 * 4096},
	} {
		l := grid(t, c.n, c.step, c.side)
		back := slices.Clone(l)
		slices.Reverse(back)
		if n := damage.Between(l, back, frame).Area(); n != c.turned {
			t.Errorf("%v: %d are turned", c, n)
		}
		if n := damage.Between(nil, l, frame).Area(); n != c.all {
			t.Errorf("%v: of %d", c, n)
		}
		up := append(slices.Clone(l[1:]), l[0])
		if g := damage.Between(l, up, frame).Bound(); !g.Within(damage.Bound(l[0], frame)) || c.side > c.step && g.Empty() {
			t.Errorf("%v: one is turned: %v", c, g)
		}
	}
}

// P1: items that no list told, ids that are in a list twice, and frames with any numbers: each call ends.
func TestBetweenAllArguments(t *testing.T) {
	l := odd()
	back := slices.Clone(l)
	slices.Reverse(back)
	for _, frame := range oddFrames() {
		damage.Between(l, nil, frame)
		damage.Between(nil, l, frame)
		damage.Between(l, back, frame)
	}
	// What stands twice in one list doesn't take the other's place twice.
	i := item(t, affine.One(), 2, 2, everywhere)
	if g := damage.Between([]flat.Item{i, i}, []flat.Item{i}, rect.Of(0, 0, 9, 9)); g.Area() != 4 {
		t.Errorf("%d pixels", g.Area())
	}
	if g := damage.Between([]flat.Item{i}, []flat.Item{i, i}, rect.Of(0, 0, 9, 9)); g.Area() != 4 {
		t.Errorf("%d pixels", g.Area())
	}
}

// The rule of memory: what is handed in stays as it is, spare room too, and each region goes its own way.
func TestMemory(t *testing.T) {
	next := noise.Numbers(8)
	s := scenery.Scene(next, 20, 20, 20)
	a, was := flat.List(s), flat.List(s)
	for range 6 {
		s.Apply(scenery.Op(next, s))
	}
	b := mixed(next, flat.List(s))
	is := slices.Clone(b)
	spare := flat.Clip{Rect: rect.Of(1, 2, 3, 4)}
	for k := range a {
		a[k].Clips = append(a[k].Clips, spare)[:len(a[k].Clips)]
	}
	a, b = append(a, flat.Item{Id: 77})[:len(a)], append(b, flat.Item{Id: 78})[:len(b)]
	frame := rect.Of(0, 0, 20, 20)
	g := damage.Between(a, b, frame)
	n := g.Area()
	for _, i := range a {
		damage.Bound(i, frame)
		if c := i.Clips[:len(i.Clips)+1]; c[len(i.Clips)] != spare {
			t.Error("spare room of clips isn't what it was")
		}
	}
	if !slices.EqualFunc(a, was, flat.Equal) || !slices.EqualFunc(b, is, flat.Equal) || a[:len(a)+1][len(a)].Id != 77 || b[:len(b)+1][len(b)].Id != 78 {
		t.Error("what was handed in isn't what it was")
	}
	g.Clear()
	if h := damage.Between(a, b, frame); n == 0 || h.Area() != n || g.Area() != 0 {
		t.Errorf("%d pixels, and then %d", n, h.Area())
	}
}
