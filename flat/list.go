package flat

import (
	"mutoscope/affine"
	"mutoscope/api"
	"mutoscope/node"
	"mutoscope/pixel"
	"mutoscope/scene"
)

const fullOpacity = 255 // by which each other one stays as it is

// down is what comes down from a node that is shown to those that lie in it.
type down struct {
	back    affine.Back
	opacity int
	clips   *clips
}

// clips is a clip, and those of nodes further up; nil is none. A node's are part
// of those of its kids, so that all of a deep scene are no more than its nodes.
type clips struct {
	Clip
	up *clips
	n  int // how many they are
}

// List tells the items of s, in order.
func List(s *scene.Scene) []Item {
	var l []Item
	// It has nodes that are shown alone, so that nothing comes down from one
	// that isn't. Where the root's parent would be, full opacity comes from.
	shown := map[int]down{s.Parent(0): {opacity: fullOpacity}}
	for id := range s.Walk() {
		above, ok := shown[s.Parent(id)]
		if !ok {
			continue
		}
		n, _ := s.Node(id)
		w, _ := s.World(id)
		d, ok := above.to(n, w)
		if !ok {
			continue
		}
		shown[id] = d
		if n.Look.Kind != node.Bare {
			l = append(l, Item{id, w, d.back, d.clips.list(), d.opacity, n.Look})
		}
	}
	return l
}

// to tells what comes down from the node n, whose world is w, if it is shown,
// as that is to which d came down.
func (d down) to(n node.Node, w affine.Map) (down, bool) {
	b, e := w.Back()
	d.back, d.opacity = b, pixel.By(d.opacity, n.Opacity)
	if n.Clipped {
		d.clips = &clips{Clip{b, n.Clip}, d.clips, d.clips.len() + 1}
	}
	return d, !n.Hidden && e == api.OK && d.opacity != 0
}

// len tells how many clips there are.
func (c *clips) len() int {
	if c == nil {
		return 0
	}
	return c.n
}

// list tells all clips, the one that is furthest up first.
func (c *clips) list() []Clip {
	l := make([]Clip, c.len())
	for ; c != nil; c = c.up {
		l[c.n-1] = c.Clip
	}
	return l
}
