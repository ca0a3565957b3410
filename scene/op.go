package scene

import (
	"slices"

	"mutoscope/affine"
	"mutoscope/api"
	"mutoscope/node"
	"mutoscope/rect"
)

// The kinds of ops.
const (
	Create     = 1
	Delete     = 2
	Move       = 3
	SetMap     = 4
	SetClip    = 5
	SetOpacity = 6
	SetLook    = 7
	SetHidden  = 8
)

// Op is one change. What its Kind doesn't name plays no part.
type Op struct {
	Kind, Id, Parent, Place int
	Map                     affine.Map
	Clip                    rect.Rect
	On                      bool
	N                       int
	Look                    node.Look
}

// spot is where a node lies, and the node.
type spot struct {
	id, parent, place int
	node              placed
}

// doAll does ops up to the first one that has an error, and tells how each of
// those that are done is undone, as long as nothing else is done behind it.
func (s *Scene) doAll(l []Op) ([]func(), api.Errno) {
	var undo []func()
	for _, o := range l {
		back, e := s.do(o)
		if e != api.OK {
			return undo, e
		}
		undo = append(undo, back)
	}
	return undo, api.OK
}

// do does an op, but for what it changes of worlds, and tells how it is undone.
func (s *Scene) do(o Op) (func(), api.Errno) {
	switch o.Kind {
	case Create:
		return s.create(o.Id, o.Parent, o.Place)
	case Delete:
		return s.remove(o.Id)
	case Move:
		return s.move(o.Id, o.Parent, o.Place)
	case SetMap, SetClip, SetOpacity, SetLook, SetHidden:
		return s.set(o)
	}
	return nil, api.ErrKind
}

func (s *Scene) create(id, parent, place int) (func(), api.Errno) {
	if e := s.tree.Add(id, parent, place); e != api.OK {
		return nil, e
	}
	// That there is no room is told behind all errors of the tree.
	if s.Len() > s.size.nodes {
		s.tree.Remove(id)
		return nil, api.ErrArena
	}
	s.nodes[id] = placed{Node: node.Plain()}
	return func() {
		s.tree.Remove(id)
		delete(s.nodes, id)
	}, api.OK
}

func (s *Scene) remove(id int) (func(), api.Errno) {
	l := s.spots(id)
	gone, e := s.tree.Remove(id)
	if e != api.OK {
		return nil, e
	}
	for _, id := range gone {
		delete(s.nodes, id)
	}
	return func() {
		for _, p := range l {
			s.tree.Add(p.id, p.parent, p.place)
			s.nodes[p.id] = p.node
		}
	}, api.OK
}

func (s *Scene) move(id, parent, place int) (func(), api.Errno) {
	was := s.spot(id)
	if e := s.tree.Move(id, parent, place); e != api.OK {
		return nil, e
	}
	return func() { s.tree.Move(id, was.parent, was.place) }, api.OK
}

func (s *Scene) set(o Op) (func(), api.Errno) {
	was, ok := s.nodes[o.Id]
	if !ok {
		return nil, api.ErrNode
	}
	// All that isn't set is right, as it is of a plain node: to ask that one
	// spares going through an image that stays.
	if e := o.on(node.Plain()).Check(); e != api.OK {
		return nil, e
	}
	n := o.on(was.Node)
	if o.Kind == SetLook {
		n = n.Copy()
	}
	s.nodes[o.Id] = placed{n, was.world}
	return func() { s.nodes[o.Id] = was }, api.OK
}

// on tells n with what o sets.
func (o Op) on(n node.Node) node.Node {
	switch o.Kind {
	case SetMap:
		n.Map = o.Map
	case SetClip:
		n.Clipped, n.Clip = o.On, o.Clip
	case SetOpacity:
		n.Opacity = o.N
	case SetLook:
		n.Look = o.Look
	case SetHidden:
		n.Hidden = o.On
	}
	return n
}

// spot tells where a node lies.
func (s *Scene) spot(id int) spot {
	p := s.Parent(id)
	return spot{id, p, slices.Index(s.Kids(p), id), s.nodes[id]}
}

// spots tells where a node and all that lies within it lie, each behind its
// parent, and behind the kids ahead of it: added in this order, all lie there
// again.
func (s *Scene) spots(id int) []spot {
	l := []spot{s.spot(id)}
	for k := 0; k < len(l); k++ {
		for place, kid := range s.Kids(l[k].id) {
			l = append(l, spot{kid, l[k].id, place, s.nodes[kid]})
		}
	}
	return l
}
