package hit_test

import (
	"math"
	"testing"

	"mutoscope/affine"
	"mutoscope/api"
	"mutoscope/flat"
	"mutoscope/hit"
	"mutoscope/node"
	"mutoscope/noise"
	"mutoscope/rect"
	"mutoscope/scene"
	"mutoscope/scenery"
)

// mapped is a scene of these maps, each one's node the kid of the one ahead of it, from the root on.
func mapped(t *testing.T, l ...affine.Map) *scene.Scene {
	t.Helper()
	s, _ := scene.New(8, 8, api.MaxNodes)
	for id, m := range l {
		if id > 0 {
			do(t, s, scene.Op{Kind: scene.Create, Id: id, Parent: id - 1})
		}
		do(t, s, scene.Op{Kind: scene.SetMap, Id: id, Map: m})
	}
	return s
}

// P18.2: by hand: it is the world, not the node's own map, by which the centre, not the corner, is taken back, and then the Floors.
func TestLocalByHand(t *testing.T) {
	s := mapped(t, affine.Shift(10*one, 0), affine.Map{B: 2 * one, C: -2 * one, F: one}, affine.Scale(one/4, -one), affine.Shift(one/2, one/2+1))
	for _, c := range []struct{ id, x, y, u, v int }{
		{0, 10, 0, 0, 0}, {0, 9, 0, -1, 0}, {0, 0, -3, -10, -3},
		{1, 9, 1, 0, 0}, {1, 8, 2, 0, 0}, {1, 9, 3, 1, 0}, {1, 10, 1, 0, -1}, {1, 7, 0, -1, 1}, {1, 7, 4, 1, 1},
		{2, 9, 1, 1, -1}, {2, 9, 2, 3, -1}, {2, 8, 0, -1, -1}, {2, 7, 1, 1, -2}, {2, 10, 1, 1, 0},
		{3, 9, 1, 0, -1}, {3, 9, 2, 2, -1}, {3, 10, 1, 0, -1}, {3, 11, 1, 0, 0},
	} {
		placed(t, s, c.id, c.x, c.y)
		if u, v, ok := hit.Local(s, c.id, c.x, c.y); u != c.u || v != c.v || !ok {
			t.Errorf("Local(%d, %d, %d): %d, %d, %v, not %d, %d", c.id, c.x, c.y, u, v, ok, c.u, c.v)
		}
	}
}

// P18.2: of nodes that there aren't, whatever their numbers are, there is nothing; of one that was removed neither.
func TestLocalOfNone(t *testing.T) {
	s := mapped(t, affine.One(), affine.One(), affine.One())
	for _, id := range []int{-1, 3, 255, api.MaxNodes - 1, api.MaxNodes, api.MaxNodes + 1, -api.MaxNodes, 1 << 32, 1<<32 + 1, math.MaxInt, math.MinInt} {
		if placed(t, s, id, 1, 1) {
			t.Errorf("node %d", id)
		}
	}
	if !placed(t, s, 0, 1, 1) || !placed(t, s, 2, 1, 1) {
		t.Error("what is there")
	}
	do(t, s, scene.Op{Kind: scene.Delete, Id: 1})
	if placed(t, s, 1, 1, 1) || placed(t, s, 2, 1, 1) || !placed(t, s, 0, 1, 1) {
		t.Error("what was removed")
	}
}

// P18.2: a world without a way back tells nothing, be it the root's or a kid's; it is asked of the node alone, not of those in which it lies.
func TestLocalWithoutBack(t *testing.T) {
	for k, c := range []struct {
		m  affine.Map
		ok bool
	}{
		{affine.Map{}, false}, {affine.Scale(one, 0), false}, {affine.Map{A: one, B: one, C: one, D: one}, false},
		{affine.Scale(4, 4), true}, {affine.Scale(-4, 4), true}, {affine.Scale(3, 4), false}, {affine.Scale(4, -3), false}, {affine.Scale(1<<30, 1<<30), true},
		{affine.Shift(1<<30, -1<<30), true}, {affine.Map{A: 1, B: 2, C: 1, D: 2, E: one}, false},
	} {
		if ok := placed(t, mapped(t, c.m), 0, 3, -5); ok != c.ok {
			t.Errorf("%d: %v", k, ok)
		}
		if ok := placed(t, mapped(t, affine.Turn(1), c.m), 1, 3, -5); ok != c.ok {
			t.Errorf("%d, as a kid: %v", k, ok)
		}
	}
	s := mapped(t, affine.Scale(3, 3), affine.Scale(2*one, 2*one), affine.Scale(one/2, one/2))
	for id, want := range []bool{false, true, false} {
		if ok := placed(t, s, id, 0, 0); ok != want {
			t.Errorf("node %d: %v", id, ok)
		}
	}
}

// P18.2: whether a node is seen plays no part, nor what it shows, nor clips.
func TestLocalOfUnseen(t *testing.T) {
	hide := []func(n *node.Node){
		func(n *node.Node) {}, func(n *node.Node) { n.Hidden = true }, func(n *node.Node) { n.Opacity = 0 }, func(n *node.Node) { n.Look = node.FillOf(1, 1, 0xff) },
		func(n *node.Node) { n.Clipped = true }, func(n *node.Node) { n.Clipped, n.Clip = true, rect.Of(100, 100, 101, 101) },
	}
	for k, f := range hide {
		n := scenery.With(func(n *node.Node) { n.Map = affine.Shift(2*one, -one) })
		f(&n)
		s := scenery.Of(1, 1, n)
		do(t, s, scenery.Put(5, 1, 0, n)...)
		if u, v, ok := hit.Local(s, 1, 7, 7); u != 5 || v != 8 || !ok {
			t.Errorf("%d: %d, %d, %v", k, u, v, ok)
		}
		if u, v, ok := hit.Local(s, 5, 7, 7); u != 3 || v != 9 || !ok {
			t.Errorf("%d: within it %d, %d, %v", k, u, v, ok)
		}
	}
}

// P18.1, P18.2: what isn't cut covers a pixel just where that lies on its look.
func TestLocalOfHit(t *testing.T) {
	on, off := 0, 0
	for seed := range uint64(40) {
		next := noise.Numbers(seed)
		s := scenery.Scene(next, 10, 10, 12)
		for id := range s.Walk() {
			do(t, s, scene.Op{Kind: scene.SetClip, Id: id})
		}
		was := s.Copy()
		for _, i := range flat.List(s) {
			w, h := i.Look.Size()
			for y := -2; y < 12; y++ {
				for x := -2; x < 12; x++ {
					u, v, ok := hit.Local(s, i.Id, x, y)
					in := ok && u >= 0 && u < w && v >= 0 && v < h
					if in != i.Covers(x, y) {
						t.Fatalf("seed %d: node %d at %d, %d: %d, %d, %v", seed, i.Id, x, y, u, v, ok)
					}
					if in {
						on++
					} else {
						off++
					}
				}
			}
		}
		if !scene.Equal(s, was) {
			t.Fatal("the scene isn't what it was")
		}
	}
	if min(on, off) < 5000 {
		t.Errorf("%d on, %d off", on, off)
	}
}

// far is numbers of pixels: near ones, those at bounds, and those at which numbers with 16 bits behind the point, or their products, have no room.
func far() []int {
	l := []int{0, 1, -1, 7, -9, math.MaxInt, math.MaxInt - 1, math.MinInt, math.MinInt + 1, 0x123456789abcdef, -0xfedcba987654321}
	for _, k := range []int{14, 15, 16, 17, 30, 31, 32, 33, 46, 47, 48, 49, 61, 62} {
		l = append(l, 1<<k, 1<<k-1, 1<<k+1, -1<<k, -1<<k-1, -1<<k+1)
	}
	return l
}

// P18.2: pixels as far as their numbers go: no bound is named, so where the answer has room in an int it is right.
func TestLocalFar(t *testing.T) {
	back := 0
	for _, m := range []affine.Map{
		affine.One(), affine.Scale(-one, one), affine.Turn(1), affine.Shift(1<<30, -1<<30), affine.Shift(one/2, -one/2-1), affine.Scale(4, -4), affine.Scale(1<<30, 3*one/7),
		{A: one, B: 1, C: -1, D: one}, {A: 3 * one, B: one / 5, C: -2 * one, D: one + 1, E: -1 << 30, F: 1<<30 - 5},
		{A: 1 << 30, B: 1<<30 - 1, C: -1 << 30, D: 1 << 30, E: 1 << 30, F: 1 << 30}, {A: 1<<16 + 1, B: 1 << 16, C: 1 << 16, D: 1 << 16}, {A: 5, B: 4, C: 4, D: -5, E: 77, F: -3},
	} {
		s := mapped(t, m)
		for _, x := range far() {
			for _, y := range far() {
				if placed(t, s, 0, x, y) {
					back++
				}
			}
		}
	}
	if n := len(far()); back < 10*n*n {
		t.Errorf("%d have a way back", back)
	}
	s := mapped(t, affine.Shift(one, -one))
	if u, v, ok := hit.Local(s, 0, 1<<60, math.MinInt); u != 1<<60-1 || v != math.MinInt+1 || !ok {
		t.Errorf("%d, %d, %v", u, v, ok)
	}
}

// P18.2: worlds without a pattern, small and great, whose numbers are often at their bounds, at pixels of each size.
func TestLocalWorlds(t *testing.T) {
	back, none := 0, 0
	for seed := range uint64(3000) {
		next := noise.Numbers(seed)
		number := func() int64 {
			n := int64(next()%(1<<31+1)) - 1<<30
			switch next() % 8 {
			case 0:
				return []int64{0, 1, -1, 4, -4, one, -one, 1 << 30, -1 << 30}[next()%9]
			case 1:
				return n >> (14 + next()%16)
			case 2, 3:
				return n >> (next() % 16)
			}
			return n >> 12
		}
		s := mapped(t, affine.Map{A: number(), B: number(), C: number(), D: number(), E: number(), F: number()})
		for range 30 {
			x, y := int(next())>>(next()%64), int(next())>>(next()%64)
			if placed(t, s, 0, x, y) {
				back++
			} else {
				none++
			}
		}
	}
	if back < 50000 || none < 1000 {
		t.Errorf("%d have a way back, %d have none", back, none)
	}
}

// P18.2: nodes of scenes without a pattern, and ids that there aren't, at the pixels of the frame.
func TestLocalScenes(t *testing.T) {
	back, none := 0, 0
	for seed := range uint64(60) {
		s := scenery.Scene(noise.Numbers(seed), 8, 8, 12)
		for id := -1; id < 13; id++ {
			for y := -2; y < 10; y++ {
				for x := -2; x < 10; x++ {
					if placed(t, s, id, x, y) {
						back++
					} else {
						none++
					}
				}
			}
		}
	}
	if back < 50000 || none < 15000 {
		t.Errorf("%d have a way back, %d have none", back, none)
	}
}
