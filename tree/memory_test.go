package tree_test

import (
	"slices"
	"testing"

	"mutoscope/tree"
)

// spoil turns all numbers of l, and of its spare room.
func spoil(l []int) {
	l = l[:cap(l)]
	for k := range l {
		l[k] = ^l[k]
	}
}

// The rule of memory: what Kids tells is new, spare room too.
func TestKidsMemory(t *testing.T) {
	p := plain{{0, 0}}
	x := of(p)
	for id := 1; id < 40; id++ {
		a, b := x.Kids(0), x.Kids(0)
		spoil(a)
		p = both(t, x, p, op{"add", id, 0, id / 2})
		if !slices.Equal(b, slices.DeleteFunc(p.kids(0), func(kid int) bool { return kid == id })) {
			t.Fatalf("told ahead: %v", b)
		}
		spoil(b)
		stands(t, x, p, upTo(40))
	}
}

// The rule of memory: what Remove tells is new, spare room too.
func TestRemoveMemory(t *testing.T) {
	x := of(by())
	c := x.Clone()
	gone, _ := x.Remove(1)
	again, _ := c.Remove(1)
	spoil(gone)
	if !slices.Equal(again, []int{1, 3, 4, 5}) {
		t.Errorf("Remove: %v", again)
	}
	spoil(again)
	for _, y := range []*tree.Tree{x, c} {
		stands(t, y, plain{{0, 0}, {2, 1}}, upTo(6))
		y.Add(1, 2, 0)
		stands(t, y, plain{{0, 0}, {2, 1}, {1, 2}}, upTo(6))
	}
}

// The rule of memory: what is handed to Has is neither changed nor kept.
func TestHasMemory(t *testing.T) {
	x := of(by())
	room := []int{5, 3, 0, 9, 9}
	x.Has(room[:3]...)
	if !slices.Equal(room, []int{5, 3, 0, 9, 9}) {
		t.Errorf("handed in: %v", room)
	}
	clear(room)
	stands(t, x, by(), upTo(6))
}

// The rule of memory: a clone shares nothing with what was cloned, also where
// both go on at the same place.
func TestCloneMemory(t *testing.T) {
	for _, p := range smallTrees(3) {
		for _, r := range p {
			x := of(p)
			c := x.Clone()
			inX := both(t, x, p, op{"add", 7, r.id, len(p.kids(r.id))})
			inC := both(t, c, p, op{"add", 8, r.id, 0})
			stands(t, x, inX, upTo(9))
			stands(t, c, inC, upTo(9))
			inX = both(t, x, inX, op{call: "remove", id: r.id})
			stands(t, c, inC, upTo(9))
			inC = both(t, c, inC, op{"move", r.id, 0, 0})
			stands(t, x, inX, upTo(9))
			stands(t, c, inC, upTo(9))
		}
	}
}
