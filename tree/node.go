package tree

import (
	"iter"
	"slices"
)

// node is one of a tree. Nodes hold each other themselves, not their ids, so
// that a way up or down asks the tree's map for none of them.
type node struct {
	id     int
	parent *node // nil of the root, and of one that has left
	kids   []*node
}

// take makes a node that has no parent a kid of n.
func (n *node) take(kid *node, place int) {
	n.kids = slices.Insert(n.kids, place, kid)
	kid.parent = n
}

// leave takes n out of its parent's kids.
func (n *node) leave() {
	p := n.parent
	k := slices.Index(p.kids, n)
	p.kids = slices.Delete(p.kids, k, k+1)
	n.parent = nil
}

// others tells how many kids n has that aren't m.
func (n *node) others(m *node) int {
	if m.parent == n {
		return len(n.kids) - 1
	}
	return len(n.kids)
}

// within tells if n lies within m.
func (n *node) within(m *node) bool {
	for p := n.parent; p != nil; p = p.parent {
		if p == m {
			return true
		}
	}
	return false
}

// walk tells n, and all that lies within it, and how far down from n each is.
// It keeps a list of its own of what is still to come: nodes may lie one in
// the other by tens of thousands.
func (n *node) walk() iter.Seq2[*node, int] {
	type step struct {
		node  *node
		depth int
	}
	return func(yield func(n *node, depth int) bool) {
		next := []step{{n, 0}}
		for len(next) > 0 {
			last := len(next) - 1
			s := next[last]
			next = next[:last]
			if !yield(s.node, s.depth) {
				return
			}
			for _, kid := range slices.Backward(s.node.kids) {
				next = append(next, step{kid, s.depth + 1})
			}
		}
	}
}

// sameId tells if two nodes, mostly of two trees, have one id.
func sameId(a, b *node) bool { return a.id == b.id }
