package pack

import (
	"math"

	"mutoscope/api"
	"mutoscope/node"
	"mutoscope/scene"
	"mutoscope/state"
)

const root = 0

// parts is what a state has, in the order of its bytes.
type parts struct {
	w, h, nodes int
	rows        []row // as the scene is walked
	facts       state.Facts
}

// row is a node, and how many nodes it lies within.
type row struct {
	id, depth int
	node      node.Node
}

// spot is a node that lies in a scene, and how many kids it has so far.
type spot struct{ id, kids int }

// partsOf tells a state's parts, in new memory.
func partsOf(s *state.State) parts {
	z := s.Scene()
	w, h, nodes := z.Size()
	p := parts{w: w, h: h, nodes: nodes, facts: s.Facts()}
	for id, depth := range z.Walk() {
		n, _ := z.Node(id)
		p.rows = append(p.rows, row{id, depth, n})
	}
	return p
}

// passParts goes through all parts. Which numbers may be a state's is for the
// layers to say that make it: here they are only such as an int has room for.
func passParts(w way, p *parts) {
	passBelow(w, math.MaxInt, &p.w, &p.h, &p.nodes)
	passList(w, api.MaxNodes, &p.rows, passRow)
	passFacts(w, &p.facts)
}

func passRow(w way, r *row) {
	passBelow(w, math.MaxInt, &r.id, &r.depth)
	passNode(w, &r.node)
}

func passNode(w way, n *node.Node) {
	passMap(w, &n.Map)
	passSigned(w, &n.Opacity)
	passFlags(w, &n.Hidden, &n.Clipped)
	passRect(w, &n.Clip)
	passLook(w, &n.Look)
}

func passFacts(w way, f *state.Facts) {
	passBelow(w, math.MaxInt, &f.Focus)
	passFlags(w, &f.Focused, &f.Clean)
	passSigned(w, &f.X, &f.Y)
	passBelow(w, math.MaxUint32, &f.Keys, &f.Sum)
	passNumbers(w, &f.Time, &f.Drawn)
	passBelow(w, math.MaxInt, &f.Draws, &f.Frames)
}

// state tells the state that has these parts, or an error, if none has.
func (p parts) state() (*state.State, api.Errno) {
	z, e := p.scene()
	if e != api.OK {
		return nil, e
	}
	return state.Of(z, p.facts)
}

// scene tells the scene that is walked in these rows. Each node is laid behind
// those it lies within, as the last kid so far, and its Map is set at once: so
// a world that can't be is told just if the whole scene has it.
func (p parts) scene() (*scene.Scene, api.Errno) {
	z, e := scene.New(p.w, p.h, p.nodes)
	if e != api.OK {
		return nil, e
	}
	if len(p.rows) == 0 || p.rows[0].id != root || p.rows[0].depth != 0 {
		return nil, api.ErrForm
	}
	if _, e := z.Apply(p.rows[0].sets()...); e != api.OK {
		return nil, e
	}
	// The node that was laid last, and those it lies within, from the root on.
	down := []spot{{id: root}}
	for _, r := range p.rows[1:] {
		if r.depth < 1 || r.depth > len(down) {
			return nil, api.ErrForm
		}
		up := &down[r.depth-1]
		create := scene.Op{Kind: scene.Create, Id: r.id, Parent: up.id, Place: up.kids}
		if _, e := z.Apply(append([]scene.Op{create}, r.sets()...)...); e != api.OK {
			return nil, e
		}
		up.kids++
		down = append(down[:r.depth], spot{id: r.id})
	}
	return z, api.OK
}

// sets tells the ops by which all of a row's node is set.
func (r row) sets() []scene.Op {
	n := r.node
	return []scene.Op{
		{Kind: scene.SetMap, Id: r.id, Map: n.Map},
		{Kind: scene.SetClip, Id: r.id, On: n.Clipped, Clip: n.Clip},
		{Kind: scene.SetOpacity, Id: r.id, N: n.Opacity},
		{Kind: scene.SetLook, Id: r.id, Look: n.Look},
		{Kind: scene.SetHidden, Id: r.id, On: n.Hidden},
	}
}
