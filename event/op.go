package event

import (
	"slices"

	"mutoscope/node"
	"mutoscope/scene"
)

// EqualOps tells if both are the same ops, at the same places.
func EqualOps(a, b []scene.Op) bool {
	return slices.EqualFunc(a, b, sameOp)
}

// sameOp tells if all of both is the same, also what their Kinds don't name.
func sameOp(a, b scene.Op) bool {
	return a.Kind == b.Kind && a.Id == b.Id && a.Parent == b.Parent && a.Place == b.Place &&
		a.Map == b.Map && a.Clip == b.Clip && a.On == b.On && a.N == b.N && sameLook(a.Look, b.Look)
}

// copyOp tells the same op, that shares no memory with o.
func copyOp(o scene.Op) scene.Op {
	o.Look = copyLook(o.Look)
	return o
}

// plainOp tells a copy of o with nothing but what its Kind names.
func plainOp(o scene.Op) scene.Op {
	switch o.Kind {
	case scene.Create, scene.Move:
		return scene.Op{Kind: o.Kind, Id: o.Id, Parent: o.Parent, Place: o.Place}
	case scene.Delete:
		return scene.Op{Kind: o.Kind, Id: o.Id}
	case scene.SetMap:
		return scene.Op{Kind: o.Kind, Id: o.Id, Map: o.Map}
	case scene.SetClip:
		return scene.Op{Kind: o.Kind, Id: o.Id, On: o.On, Clip: o.Clip}
	case scene.SetOpacity:
		return scene.Op{Kind: o.Kind, Id: o.Id, N: o.N}
	case scene.SetLook:
		return scene.Op{Kind: o.Kind, Id: o.Id, Look: copyLook(o.Look)}
	case scene.SetHidden:
		return scene.Op{Kind: o.Kind, Id: o.Id, On: o.On}
	}
	return scene.Op{Kind: o.Kind}
}

// copyLook tells the same look, that shares no memory with l. Layer 11 copies
// nodes, and holds nodes against each other: one with nothing set but its look
// stands for that.
func copyLook(l node.Look) node.Look {
	return node.Node{Look: l}.Copy().Look
}

// sameLook tells if layer 11 has both as the same, whether they are right or not.
func sameLook(a, b node.Look) bool {
	return node.Equal(node.Node{Look: a}, node.Node{Look: b})
}
