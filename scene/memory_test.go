package scene_test

import (
	"slices"
	"testing"

	"mutoscope/api"
	"mutoscope/image"
	"mutoscope/node"
	"mutoscope/pixel"
	"mutoscope/scene"
)

// spoil turns all bits of l, and of its spare room.
func spoil(l []pixel.Pixel) {
	l = l[:cap(l)]
	for k := range l {
		l[k] ^= 0xffffffff
	}
}

// shown is a scene with one image, that was handed in with spare room behind it, and all of that memory.
func shown(t *testing.T) (s *scene.Scene, p plain, all []pixel.Pixel) {
	t.Helper()
	s, p = sample(t, 6)
	m := someImage(2, 3, 2)
	all = append(slices.Clone(m.Pixels), 1, 2, 3)
	was := slices.Clone(all)
	p = both(t, s, p, scene.Op{Kind: scene.SetLook, Id: 2, Look: node.ImageOf(m)})
	look := node.Look{Kind: node.Image, Image: image.Image{W: 3, H: 2, Pixels: all[:6]}}
	if at, e := s.Apply(scene.Op{Kind: scene.SetLook, Id: 2, Look: look}); at != 1 || e != api.OK || !slices.Equal(all, was) {
		t.Fatalf("Apply: %d, %d, %v", at, e, all)
	}
	stands(t, s, p)
	return s, p, all
}

// The rule of memory: an image that is handed in isn't kept, its spare room neither.
func TestSetLookMemory(t *testing.T) {
	s, p, all := shown(t)
	spoil(all)
	stands(t, s, p)
}

// The rule of memory: what Node tells is new, spare room too.
func TestNodeMemory(t *testing.T) {
	s, p, all := shown(t)
	was := slices.Clone(all)
	a, _ := s.Node(2)
	b, _ := s.Node(2)
	spoil(a.Look.Image.Pixels)
	if !slices.Equal(b.Look.Image.Pixels, was[:6]) || !slices.Equal(all, was) {
		t.Errorf("%v, %v", b.Look.Image.Pixels, all)
	}
	stands(t, s, p)
	// Also behind ops that leave the image as it is, and behind a refused one.
	for _, l := range [][]scene.Op{{{Kind: scene.SetOpacity, Id: 2, N: 3}}, {{Kind: scene.Move, Id: 2, Parent: 5}}, {{Kind: scene.SetLook, Id: 2}, {}}, {{Kind: scene.Delete, Id: 2}, {}}} {
		n, _ := s.Node(2)
		p = both(t, s, p, l...)
		spoil(n.Look.Image.Pixels)
		n, _ = s.Node(2)
		stands(t, s, p)
		spoil(n.Look.Image.Pixels)
		stands(t, s, p)
	}
}

// The rule of memory: a copy shares nothing with what was copied that any call tells.
func TestCopyMemory(t *testing.T) {
	s, p, _ := shown(t)
	c, q := s.Copy(), p
	n, _ := c.Node(2)
	spoil(n.Look.Image.Pixels)
	n, _ = s.Node(5)
	spoil(n.Look.Image.Pixels)
	stands(t, s, p)
	stands(t, c, q)
	for k, o := range someOps() {
		if k%2 == 0 {
			p = both(t, s, p, o)
		} else {
			q = both(t, c, q, o)
		}
		stands(t, s, p)
		stands(t, c, q)
	}
	both(t, s, p, scene.Op{Kind: scene.SetLook, Look: node.ImageOf(small(1, 2))})
	stands(t, c, q)
}

// The rule of memory: what Kids tells is new, and what is handed to Has and to Apply is neither changed nor kept.
func TestListsMemory(t *testing.T) {
	s, p := sample(t, 6)
	a, b := s.Kids(0), s.Kids(0)
	a = a[:cap(a)]
	clear(a)
	if !slices.Equal(b, []int{1, 2}) {
		t.Errorf("%v", b)
	}
	ids := []int{5, 3, 0, 9, 9}
	s.Has(ids[:3]...)
	if !slices.Equal(ids, []int{5, 3, 0, 9, 9}) {
		t.Errorf("%v", ids)
	}
	clear(ids)
	stands(t, s, p)
	ops := []scene.Op{{Kind: scene.SetOpacity, Id: 5, N: 1}, {Kind: scene.Delete, Id: 3}, {Kind: scene.SetHidden, Id: 1, On: true}, {Kind: 77, Id: 7}}
	p = both(t, s, p, ops[:3]...)
	if ops[0].N != 1 || ops[1].Id != 3 || !ops[2].On || ops[3].Kind != 77 || ops[3].Id != 7 {
		t.Errorf("%v", ops)
	}
	clear(ops)
	stands(t, s, p)
}

// What Walk told stays as it was told, whatever comes behind it; and a walk ends, even if each step brings one node more.
func TestWalkTold(t *testing.T) {
	s, _ := sample(t, api.MaxNodes)
	want := walked(s)
	walk := s.Walk()
	for range 2 {
		var got []row
		for id, depth := range walk {
			got = append(got, row{id, depth})
			s.Apply(scene.Op{Kind: scene.Create, Id: 10 + id, Parent: 2}, scene.Op{Kind: scene.Move, Id: 2, Parent: 0, Place: 1})
		}
		if !slices.Equal(got, want) {
			t.Errorf("%v", got)
		}
	}
	if s.Len() != 12 {
		t.Errorf("Len %d", s.Len())
	}
	n := 0
	for range s.Walk() {
		if n++; n == 3 {
			break
		}
	}
	if n != 3 {
		t.Errorf("%d steps", n)
	}
}
