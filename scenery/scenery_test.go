package scenery_test

import (
	"slices"
	"testing"

	"mutoscope/affine"
	"mutoscope/api"
	"mutoscope/node"
	"mutoscope/noise"
	"mutoscope/scene"
	"mutoscope/scenery"
)

// The tests of the layers lean on this: one row of numbers is one scene, and rows of others are others; all nodes are right.
func TestScene(t *testing.T) {
	last, nodes := scenery.Scene(noise.Numbers(99), 16, 9, 12), 0
	for seed := range uint64(200) {
		s, again := scenery.Scene(noise.Numbers(seed), 16, 9, 12), scenery.Scene(noise.Numbers(seed), 16, 9, 12)
		if w, h, most := s.Size(); w != 16 || h != 9 || most != 12 || !scene.Equal(s, again) || scene.Equal(s, last) && seed != 99 {
			t.Fatalf("seed %d: %d by %d, of %d", seed, w, h, most)
		}
		for id := range s.Walk() {
			if n, _ := s.Node(id); n.Check() != api.OK {
				t.Errorf("seed %d: %v", seed, n)
			}
		}
		last = s
		nodes += s.Len()
	}
	if nodes < 2000 {
		t.Errorf("%d nodes", nodes)
	}
}

// Most ops are done, some are refused, and each kind is among both that can be.
func TestOp(t *testing.T) {
	next := noise.Numbers(1)
	s := scenery.Scene(next, 16, 9, 12)
	done, refused := map[int]int{}, 0
	for range 20000 {
		o := scenery.Op(next, s)
		if _, e := s.Apply(o); e == api.OK {
			done[o.Kind]++
		} else {
			refused++
		}
	}
	for kind := scene.Create; kind <= scene.SetHidden; kind++ {
		if done[kind] < 200 {
			t.Errorf("kind %d: %d done", kind, done[kind])
		}
	}
	if refused < 500 || refused > 10000 {
		t.Errorf("%d refused", refused)
	}
}

// What is made by hand is what was asked for, and none, if that is refused.
func TestOf(t *testing.T) {
	bare := scenery.With(func(n *node.Node) { n.Opacity = 7 })
	s := scenery.Of(5, 3, scenery.Filled(affine.Shift(9, 8), 2, 1), bare)
	if w, h, most := s.Size(); w != 5 || h != 3 || most != api.MaxNodes || !slices.Equal(s.Kids(0), []int{1, 2}) || s.Len() != 3 {
		t.Fatalf("%d by %d, of %d: %v", w, h, most, s.Kids(0))
	}
	want := node.Plain()
	want.Map, want.Look = affine.Shift(9, 8), node.FillOf(2, 1, 0xff)
	if n, _ := s.Node(1); !node.Equal(n, want) {
		t.Errorf("%v", n)
	}
	want = node.Plain()
	want.Opacity = 7
	if n, _ := s.Node(2); !node.Equal(n, want) {
		t.Errorf("%v", n)
	}
	if at, e := s.Apply(scenery.Put(9, 2, 0, bare)...); e != api.OK || s.Parent(9) != 2 || at != 6 {
		t.Errorf("Put: %d, %d", at, e)
	}
	if scenery.Of(0, 1) != nil || scenery.Of(1, 1, scenery.Filled(affine.One(), 0, 1), bare) != nil || scenery.Of(1, 1) == nil {
		t.Error("what is refused")
	}
}

// Scenes of the least and of the greatest sides are made, too.
func TestSides(t *testing.T) {
	for _, side := range []int{1, 2, 3, 4096} {
		next := noise.Numbers(uint64(side))
		s := scenery.Scene(next, side, side, 40)
		for range 500 {
			s.Apply(scenery.Op(next, s))
		}
		if s.Len() < 1 || s.Len() > 40 {
			t.Errorf("side %d: %d nodes", side, s.Len())
		}
	}
}
