package tree_test

import (
	"math"
	"slices"
	"testing"

	"mutoscope/api"
	"mutoscope/tree"
)

// row is a node, and how many nodes it lies within.
type row struct{ id, depth int }

// plain is a tree by the chapter's words: its nodes, as they are walked. So what
// lies within a node are the rows behind its own, as long as they are deeper.
type plain []row

// op is one call that changes something; Remove has an id alone.
type op struct {
	call              string
	id, parent, place int
}

// at is the node's row, or -1.
func (p plain) at(id int) int {
	return slices.IndexFunc(p, func(r row) bool { return r.id == id })
}

// end is the row behind all that lies within the node of the row k.
func (p plain) end(k int) int {
	for j := k + 1; j < len(p); j++ {
		if p[j].depth <= p[k].depth {
			return j
		}
	}
	return len(p)
}

// kidRows is the rows of the kids of the node of the row k.
func (p plain) kidRows(k int) []int {
	var l []int
	for j := k + 1; j < p.end(k); j++ {
		if p[j].depth == p[k].depth+1 {
			l = append(l, j)
		}
	}
	return l
}

func (p plain) kids(id int) []int {
	var l []int
	if k := p.at(id); k >= 0 {
		for _, j := range p.kidRows(k) {
			l = append(l, p[j].id)
		}
	}
	return l
}

func (p plain) parent(id int) int {
	for k := p.at(id) - 1; k >= 0; k-- {
		if p[k].depth < p[p.at(id)].depth {
			return p[k].id
		}
	}
	return -1
}

func (p plain) within(id, other int) bool {
	k := p.at(other)
	return k >= 0 && k < p.at(id) && p.at(id) < p.end(k)
}

// others is how many kids the node other has that aren't id.
func (p plain) others(other, id int) int {
	return len(slices.DeleteFunc(p.kids(other), func(kid int) bool { return kid == id }))
}

// refusal is the first of an op's errors.
func (p plain) refusal(o op) api.Errno {
	type reason struct {
		is bool
		e  api.Errno
	}
	var l []reason
	parent := reason{p.at(o.parent) < 0, api.ErrParent}
	place := reason{o.place < 0 || o.place > p.others(o.parent, o.id), api.ErrPlace}
	moved := []reason{{o.id == 0, api.ErrRoot}, {p.at(o.id) < 0, api.ErrNode}}
	switch o.call {
	case "add":
		l = []reason{{o.id < 1 || o.id > 65535, api.ErrRange}, {p.at(o.id) >= 0, api.ErrHave}, parent, place}
	case "remove":
		l = moved
	case "move":
		l = append(moved, parent, reason{o.parent == o.id || p.within(o.parent, o.id), api.ErrCycle}, place)
	}
	for _, r := range l {
		if r.is {
			return r.e
		}
	}
	return api.OK
}

// do is the tree behind an op, the ids that are gone, and the op's error.
func (p plain) do(o op) (plain, []int, api.Errno) {
	if e := p.refusal(o); e != api.OK {
		return p, nil, e
	}
	block, rest := plain{{id: o.id}}, slices.Clone(p)
	if o.call != "add" {
		k := p.at(o.id)
		block, rest = slices.Clone(p[k:p.end(k)]), slices.Delete(rest, k, p.end(k))
	}
	if o.call == "remove" {
		return rest, block.ids(), api.OK
	}
	return rest.with(block, o.parent, o.place), nil, api.OK
}

// with is p and the rows of block, whose first is a kid of parent at the place.
func (p plain) with(block plain, parent, place int) plain {
	k := p.at(parent)
	deeper := p[k].depth + 1 - block[0].depth
	for j := range block {
		block[j].depth += deeper
	}
	at := append(p.kidRows(k), p.end(k))[place]
	return slices.Insert(slices.Clone(p), at, block...)
}

func (p plain) ids() []int {
	var l []int
	for _, r := range p {
		l = append(l, r.id)
	}
	return l
}

// run is the same op of a tree.
func run(x *tree.Tree, o op) ([]int, api.Errno) {
	switch o.call {
	case "add":
		return nil, x.Add(o.id, o.parent, o.place)
	case "move":
		return nil, x.Move(o.id, o.parent, o.place)
	}
	return x.Remove(o.id)
}

// both does an op of a tree and of a plain one, and fails if they don't tell the same.
func both(t *testing.T, x *tree.Tree, p plain, o op) plain {
	t.Helper()
	behind, want, wantE := p.do(o)
	gone, e := run(x, o)
	if e != wantE || !slices.Equal(gone, want) {
		t.Fatalf("%v of %v: %v, %d, not %v, %d", o, p, gone, e, want, wantE)
	}
	return behind
}

// walked is all that Walk tells.
func walked(x *tree.Tree) plain {
	var p plain
	for id, depth := range x.Walk() {
		p = append(p, row{id, depth})
	}
	return p
}

// of is a tree of the nodes of p.
func of(p plain) *tree.Tree {
	x := tree.New()
	for _, r := range p[1:] {
		parent := p.parent(r.id)
		x.Add(r.id, parent, len(x.Kids(parent)))
	}
	return x
}

// stands fails if x tells anything else than p of the ids l, and of each two of them.
func stands(t *testing.T, x *tree.Tree, p plain, l []int) {
	t.Helper()
	if w := walked(x); !slices.Equal(w, p) || x.Len() != len(p) {
		t.Fatalf("Len %d, Walk %v, not %v", x.Len(), w, p)
	}
	for _, id := range l {
		if kids := x.Kids(id); !slices.Equal(kids, p.kids(id)) {
			t.Fatalf("Kids(%d) of %v: %v", id, p, kids)
		}
		if parent := x.Parent(id); parent != p.parent(id) {
			t.Fatalf("Parent(%d) of %v: %d", id, p, parent)
		}
		if x.Has(id) != (p.at(id) >= 0) {
			t.Fatalf("Has(%d) of %v: %v", id, p, x.Has(id))
		}
		for _, other := range l {
			if x.Within(id, other) != p.within(id, other) {
				t.Fatalf("Within(%d, %d) of %v: %v", id, other, p, x.Within(id, other))
			}
			if x.Has(id, other) != (p.at(id) >= 0 && p.at(other) >= 0) {
				t.Fatalf("Has(%d, %d) of %v: %v", id, other, p, x.Has(id, other))
			}
		}
	}
}

// upTo is the numbers from -1 to most.
func upTo(most int) []int {
	var l []int
	for k := -1; k <= most; k++ {
		l = append(l, k)
	}
	return l
}

// far is numbers about the bounds of ids, and of fewer bits, and of all numbers;
// each but one is no node of a small tree, though the low bits of some are.
func far() []int {
	return []int{0, -1, -2, 255, 256, 65534, 65535, 65536, 65537, -65535, -65536, 1 << 31, 1 << 32, 1<<32 + 1, -1 << 32, 1 << 62, math.MaxInt, math.MinInt, math.MinInt + 1}
}

// smallTrees is all trees of the root and any of the ids from 1 to most.
func smallTrees(most int) []plain {
	all := []plain{{{0, 0}}}
	for k := 0; k < len(all); k++ {
		for id := 1; id <= most; id++ {
			for _, r := range all[k] {
				for place := range most {
					p, _, e := all[k].do(op{"add", id, r.id, place})
					if e == api.OK && !slices.ContainsFunc(all, func(q plain) bool { return slices.Equal(p, q) }) {
						all = append(all, p)
					}
				}
			}
		}
	}
	return all
}

// ops is all ops of these ids, parents and places.
func ops(ids, parents, places []int) []op {
	var l []op
	for _, id := range ids {
		l = append(l, op{call: "remove", id: id})
		for _, parent := range parents {
			for _, place := range places {
				l = append(l, op{"add", id, parent, place}, op{"move", id, parent, place})
			}
		}
	}
	return l
}
