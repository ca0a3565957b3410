package scene

import (
	"slices"

	"mutoscope/affine"
	"mutoscope/api"
)

// settle gives the nodes their worlds, behind ops that may have changed some;
// or it changes nothing, if one of them can't be.
func (s *Scene) settle(l []Op) api.Errno {
	fresh := map[int]affine.Map{}
	for _, row := range slices.Backward(s.stale(l)) {
		for _, id := range row {
			w, e := s.reckon(id, fresh)
			if e != api.OK {
				return e
			}
			fresh[id] = w
		}
	}
	for id, w := range fresh {
		s.nodes[id] = placed{s.nodes[id].Node, w}
	}
	return api.OK
}

// reckon tells a node's world, by that of its parent, which is among the fresh
// ones or wasn't changed.
func (s *Scene) reckon(id int, fresh map[int]affine.Map) (affine.Map, api.Errno) {
	m := s.nodes[id].Map
	if id == root {
		return m, api.OK
	}
	p := s.Parent(id)
	w, ok := fresh[p]
	if !ok {
		w = s.nodes[p].world
	}
	return m.Then(w)
}

// stale tells all nodes whose worlds ops may have changed, in rows, each node
// once. In its row it stands behind its parent, but for the row's first one:
// its parent, if it is stale, is in a row behind that, since one ahead of it
// would have gone on to it. So from the last row on parents come first.
func (s *Scene) stale(l []Op) [][]int {
	var rows [][]int
	seen := map[int]struct{}{}
	for _, o := range l {
		switch o.Kind {
		case Create, Move, SetMap:
			if s.Has(o.Id) {
				rows = append(rows, s.unseen(o.Id, seen))
			}
		}
	}
	return rows
}

// unseen tells a node and all that lies within it, each behind its parent, but
// for those that were seen; now all of them are.
func (s *Scene) unseen(id int, seen map[int]struct{}) []int {
	var row []int
	next := []int{id}
	for k := 0; k < len(next); k++ {
		id := next[k]
		if _, was := seen[id]; was {
			continue // and so was all that lies within it
		}
		seen[id] = struct{}{}
		row = append(row, id)
		next = append(next, s.Kids(id)...)
	}
	return row
}
