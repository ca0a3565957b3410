package scenery_test

import (
	"testing"

	"mutoscope/api"
	"mutoscope/noise"
	"mutoscope/scene"
	"mutoscope/scenery"
)

// The tests of the layers lean on this: one row of numbers is one scene, and rows of others are others; all nodes are right.
func TestScene(t *testing.T) {
	last, nodes := scenery.Scene(noise.Numbers(99), 16, 9, 12), 0
	for seed := range uint64(200) {
		s, again := scenery.Scene(noise.Numbers(seed), 16, 9, 12), scenery.Scene(noise.Numbers(seed), 16, 9, 12)
		if w, h, most := s.Size(); w != 16 || h != 9 || most != 12 || !scene.Equal(s, again) || scene.Equal(s, last) && seed != 99 {
			t.Fatalf("seed %d: %d by %d, of %d", seed, w, h, most)
		}
		for id := range s.Walk() {
			if n, _ := s.Node(id); n.Check() != api.OK {
				t.Errorf("seed %d: %v", seed, n)
			}
		}
		last = s
		nodes += s.Len()
	}
	if nodes < 2000 {
		t.Errorf("%d nodes", nodes)
	}
}

// Most ops are done, some are refused, and each kind is among both that can be.
func TestOp(t *testing.T) {
	next := noise.Numbers(1)
	s := scenery.Scene(next, 16, 9, 12)
	done, refused := map[int]int{}, 0
	for range 20000 {
		o := scenery.Op(next, s)
		if _, e := s.Apply(o); e == api.OK {
			done[o.Kind]++
		} else {
			refused++
		}
	}
	for kind := scene.Create; kind <= scene.SetHidden; kind++ {
		if done[kind] < 200 {
			t.Errorf("kind %d: %d done", kind, done[kind])
		}
	}
	if refused < 500 || refused > 10000 {
		t.Errorf("%d refused", refused)
	}
}

// Scenes of the least and of the greatest sides are made, too.
func TestSides(t *testing.T) {
	for _, side := range []int{1, 2, 3, 4096} {
		next := noise.Numbers(uint64(side))
		s := scenery.Scene(next, side, side, 40)
		for range 500 {
			s.Apply(scenery.Op(next, s))
		}
		if s.Len() < 1 || s.Len() > 40 {
			t.Errorf("side %d: %d nodes", side, s.Len())
		}
	}
}
