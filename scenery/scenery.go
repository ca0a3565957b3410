// Package scenery holds scenes, for the tests of the layers that show them. What
// a row of numbers makes has no pattern, and is the same in each run; most of what
// is in such a scene is seen in its frame, and some of each kind isn't.
package scenery

import (
	"mutoscope/affine"
	"mutoscope/api"
	"mutoscope/node"
	"mutoscope/noise"
	"mutoscope/rect"
	"mutoscope/scene"
)

// Scene tells a scene of w by h pixels with nodes from 0 on, as many as there
// may be, but for those whose worlds can't be, and what would lie in these.
func Scene(next func() uint64, w, h, nodes int) *scene.Scene {
	s, _ := scene.New(w, h, nodes)
	s.Apply(Set(0, rooted(next, w))...)
	for id := 1; id < nodes; id++ {
		parent := below(next, id)
		place := below(next, len(s.Kids(parent))+1)
		s.Apply(Put(id, parent, place, Node(next, w))...)
	}
	return s
}

// Of tells a scene of w by h pixels with these nodes from 1 on, that lie in a bare
// root, each one on the one ahead of it; none, if that is refused.
func Of(w, h int, l ...node.Node) *scene.Scene {
	s, e := scene.New(w, h, api.MaxNodes)
	for k, n := range l {
		if e == api.OK {
			_, e = s.Apply(Put(k+1, 0, k, n)...)
		}
	}
	if e != api.OK {
		return nil
	}
	return s
}

// With tells layer 11's Plain, but for what f sets.
func With(f func(n *node.Node)) node.Node {
	n := node.Plain()
	f(&n)
	return n
}

// Filled tells a node of that map that is a fill of w by h.
func Filled(m affine.Map, w, h int) node.Node {
	return With(func(n *node.Node) { n.Map, n.Look = m, node.FillOf(w, h, 0xff) })
}

// Op tells an op that changes something of s, or would, if it weren't refused;
// some are.
func Op(next func() uint64, s *scene.Scene) scene.Op {
	w, _, nodes := s.Size()
	id := someNode(next, s)
	n := Node(next, w)
	switch one := Set(id, n); below(next, 16) {
	case 0, 1, 2:
		return scene.Op{Kind: scene.Create, Id: below(next, nodes+2), Parent: id, Place: below(next, len(s.Kids(id))+1)}
	case 3:
		return scene.Op{Kind: scene.Delete, Id: id}
	case 4, 5, 6:
		parent := someNode(next, s)
		return scene.Op{Kind: scene.Move, Id: id, Parent: parent, Place: below(next, len(s.Kids(parent))+1)}
	case 7, 8, 9:
		return one[0]
	case 10, 11:
		return one[1]
	case 12:
		return one[2]
	case 13, 14:
		return one[3]
	default:
		return one[4]
	}
}

// Node tells a right node, for a frame that is so many pixels wide.
func Node(next func() uint64, side int) node.Node {
	n := node.Node{Map: Map(next, side), Opacity: opacity(next), Hidden: below(next, 24) == 0, Look: look(next, side)}
	if below(next, 4) == 0 {
		n.Clipped, n.Clip = true, clip(next, side)
	}
	return n
}

// rooted tells a node for the root, by which seldom all of a scene is unseen.
func rooted(next func() uint64, side int) node.Node {
	if below(next, 4) == 0 {
		return Node(next, side)
	}
	n := node.Plain()
	n.Look = look(next, side)
	return n
}

// Map tells a right map about the middle of a frame, that takes what it takes
// not far; seldom one that has no way back.
func Map(next func() uint64, side int) affine.Map {
	mid := int64(side) * api.One / 2
	m, _ := affine.Shift(-mid, -mid).Then(still(next), affine.Shift(mid+shift(next, side), mid+shift(next, side)))
	return m
}

// still tells a map that leaves the point 0, 0 where it is.
func still(next func() uint64) affine.Map {
	switch below(next, 16) {
	case 0, 1:
		return affine.Turn(below(next, 4))
	case 2:
		return affine.Scale(number(next, 2), number(next, 2))
	case 3, 4:
		return affine.Scale(scale(next), scale(next))
	case 5, 6:
		return affine.Map{A: number(next, 2), B: number(next, 2), C: number(next, 2), D: number(next, 2)}
	case 7:
		if below(next, 3) == 0 {
			return affine.Scale(int64(below(next, 9)), scale(next))
		}
	}
	return affine.One()
}

// Put tells the ops by which n is the node id, at its place in its parent.
func Put(id, parent, place int, n node.Node) []scene.Op {
	return append([]scene.Op{{Kind: scene.Create, Id: id, Parent: parent, Place: place}}, Set(id, n)...)
}

// Set tells the ops by which the node id is n.
func Set(id int, n node.Node) []scene.Op {
	return []scene.Op{
		{Kind: scene.SetMap, Id: id, Map: n.Map},
		{Kind: scene.SetClip, Id: id, On: n.Clipped, Clip: n.Clip},
		{Kind: scene.SetOpacity, Id: id, N: n.Opacity},
		{Kind: scene.SetLook, Id: id, Look: n.Look},
		{Kind: scene.SetHidden, Id: id, On: n.Hidden},
	}
}

// someNode tells the id of a node that there is.
func someNode(next func() uint64, s *scene.Scene) int {
	var l []int
	for id := range s.Walk() {
		l = append(l, id)
	}
	return l[below(next, len(l))]
}

func look(next func() uint64, side int) node.Look {
	switch below(next, 4) {
	case 0:
		return node.Look{}
	case 1:
		return node.ImageOf(noise.Image(next, 1+below(next, 5), 1+below(next, 5)))
	}
	return node.FillOf(1+below(next, side), 1+below(next, side), noise.Pixel(next))
}

// clip tells a rectangle, mostly one that leaves most of a frame, seldom one
// that is turned.
func clip(next func() uint64, side int) rect.Rect {
	x, y := within(next, side), within(next, side)
	if below(next, 6) == 0 {
		return rect.Rect{X0: x, Y0: y, X1: within(next, side), Y1: within(next, side)}
	}
	return rect.Rect{X0: x - side/2, Y0: y - side/2, X1: x + 1 + side/2, Y1: y + 1 + side}
}

func opacity(next func() uint64) int {
	switch below(next, 8) {
	case 0:
		return []int{0, 1, 2, 127, 128, 253, 254}[below(next, 7)]
	case 1, 2:
		return 1 + below(next, 255)
	}
	return 255
}

// shift tells a number of pixels, mostly none, or whole or half ones.
func shift(next func() uint64, side int) int64 {
	switch below(next, 8) {
	case 0:
		return number(next, side) / 2
	case 1, 2:
		return number(next, side) / api.One * api.One / 2
	case 3:
		return number(next, side) / 2 / api.One * api.One
	}
	return 0
}

func scale(next func() uint64) int64 {
	return []int64{-api.One, -api.One / 2, api.One / 3, api.One / 2, 3 * api.One / 2, 2 * api.One}[below(next, 6)]
}

// within tells a whole number of pixels that is in a frame, or near it.
func within(next func() uint64, side int) int {
	return below(next, side+side/4+1) - side/4
}

// number tells a number from -most to most, with any bits behind its point.
func number(next func() uint64, most int) int64 {
	return int64(below(next, 2*most*api.One+1) - most*api.One)
}

func below(next func() uint64, n int) int {
	return int(next() % uint64(n))
}
