package tree_test

import (
	"slices"
	"testing"

	"mutoscope/api"
	"mutoscope/tree"
)

// P12.2: Walk tells as much as is asked, and no more, and then again from the root on.
func TestWalkAsked(t *testing.T) {
	x := of(by())
	walk := x.Walk()
	for most := 1; most <= len(by())+1; most++ {
		var got plain
		walk(func(id, depth int) bool {
			got = append(got, row{id, depth})
			return len(got) < most
		})
		if want := by()[:min(most, len(by()))]; !slices.Equal(got, want) {
			t.Errorf("%d asked: %v, not %v", most, got, want)
		}
	}
	stands(t, x, by(), upTo(6))
}

// P12.2: two walks, one in the other, one of them of the same answer.
func TestWalkInWalk(t *testing.T) {
	x := of(by())
	walk := x.Walk()
	var outer plain
	for id, depth := range walk {
		outer = append(outer, row{id, depth})
		var inner plain
		for other, deep := range walk {
			if inner = append(inner, row{other, deep}); other == id {
				break
			}
		}
		if !slices.Equal(inner, outer) || !slices.Equal(walked(x), by()) {
			t.Fatalf("%v in %v", inner, outer)
		}
	}
	if !slices.Equal(outer, by()) {
		t.Errorf("%v", outer)
	}
}

// What Walk told stays as it was told, whatever comes behind it.
func TestWalkTold(t *testing.T) {
	x := of(by())
	walk := x.Walk()
	x.Remove(4)
	x.Add(4, 0, 0)
	x.Move(1, 2, 0)
	for range 2 {
		var got plain
		for id, depth := range walk {
			got = append(got, row{id, depth})
			x.Remove(id)
		}
		if !slices.Equal(got, by()) {
			t.Errorf("%v", got)
		}
	}
	stands(t, x, plain{{0, 0}}, upTo(6))
}

// P1: a walk ends, even if what lies ahead is changed at each step.
func TestWalkEnds(t *testing.T) {
	x := of(by())
	var got plain
	for id, depth := range x.Walk() {
		got = append(got, row{id, depth})
		x.Move(1, 0, 1)
		x.Move(2, 0, 1)
		x.Add(10+id, id, 0)
		if len(got) > 100 {
			break
		}
	}
	if !slices.Equal(got, by()) {
		t.Errorf("%v", got)
	}
	if x.Len() != 12 || !x.Has(10, 11, 12, 13, 14, 15) {
		t.Errorf("Len %d", x.Len())
	}
}

// P12.1, P12.2: all ids that there may be, each the kid of the one below it, so that nodes lie one in the other as deep as may be.
func TestDeepest(t *testing.T) {
	const most = api.MaxNodes - 1
	x := tree.New()
	for id := 1; id <= most; id++ {
		if e := x.Add(id, id-1, 0); e != api.OK {
			t.Fatalf("Add(%d): %d", id, e)
		}
	}
	if x.Add(most, 0, 0) != api.ErrHave || x.Add(most+1, 0, 0) != api.ErrRange || x.Len() != api.MaxNodes {
		t.Errorf("Len %d", x.Len())
	}
	if !x.Within(most, 0) || x.Within(0, most) || !x.Within(most, 1) || x.Move(1, most, 0) != api.ErrCycle {
		t.Error("Within, or Move")
	}
	c := x.Clone()
	next := 0
	for id, depth := range c.Walk() {
		if id != next || depth != next {
			t.Fatalf("%d: %d, %d", next, id, depth)
		}
		next++
	}
	if next != api.MaxNodes || !tree.Same(c, x) {
		t.Errorf("%d walked", next)
	}
	// The upper half goes below the lower one's end.
	half := api.MaxNodes / 2
	if x.Move(half, 0, 1) != api.OK || x.Move(1, most, 0) != api.OK || !x.Within(half-1, half) || x.Within(half, 1) || tree.Same(c, x) {
		t.Error("the halves")
	}
	gone, e := x.Remove(half)
	if e != api.OK || len(gone) != most || gone[0] != half || gone[most-1] != half-1 || x.Len() != 1 || x.Has(1) {
		t.Errorf("Remove: %d gone, %d", len(gone), e)
	}
	if c.Len() != api.MaxNodes {
		t.Errorf("the clone: Len %d", c.Len())
	}
}

// P12.1, P12.2: all ids that there may be, as kids of one node.
func TestWidest(t *testing.T) {
	const most = api.MaxNodes - 1
	x := tree.New()
	x.Add(most, 0, 0)
	var want []int
	for id := 1; id < most; id++ {
		if e := x.Add(id, most, (id-1)/2); e != api.OK {
			t.Fatalf("Add(%d): %d", id, e)
		}
	}
	// Each was put in the middle: the even ones, rising, and then the odd ones, falling.
	for id := 2; id < most; id += 2 {
		want = append(want, id)
	}
	for id := most - 2; id > 0; id -= 2 {
		want = append(want, id)
	}
	if !slices.Equal(x.Kids(most), want) || x.Len() != api.MaxNodes {
		t.Fatalf("Len %d", x.Len())
	}
	if x.Move(1, most, most-1) != api.ErrPlace || x.Move(1, most, most-2) != api.OK || x.Move(2, most, 1) != api.OK {
		t.Error("Move")
	}
	want[0], want[1] = want[1], want[0]
	gone, e := x.Remove(most)
	if e != api.OK || !slices.Equal(gone, slices.Insert(want, 0, most)) || x.Len() != 1 {
		t.Errorf("Remove: %d gone, %d", len(gone), e)
	}
}
