package scene_test

import (
	"slices"
	"testing"

	"mutoscope/affine"
	"mutoscope/api"
	"mutoscope/node"
	"mutoscope/scene"
)

// chain is a scene of the nodes 0 to len(l) - 1, each in the one below it, of these maps.
func chain(t *testing.T, l ...affine.Map) (*scene.Scene, plain) {
	t.Helper()
	s, e := scene.New(1, 1, api.MaxNodes)
	if e != api.OK {
		t.Fatalf("New: %d", e)
	}
	var ops []scene.Op
	for id, m := range l {
		if id > 0 {
			ops = append(ops, scene.Op{Kind: scene.Create, Id: id, Parent: id - 1})
		}
		ops = append(ops, scene.Op{Kind: scene.SetMap, Id: id, Map: m})
	}
	p := both(t, s, newPlain(1, 1, api.MaxNodes), ops...)
	stands(t, s, p)
	return s, p
}

func setMap(id int, m affine.Map) scene.Op {
	return scene.Op{Kind: scene.SetMap, Id: id, Map: m}
}

// P13.2: a world is the node's own map, and then its parent's world, rounded there: not its own map, and then its parent's, and so on.
func TestWorldIsRoundedFromAbove(t *testing.T) {
	half := affine.Scale(one/2, one)
	s, _ := chain(t, affine.Scale(one/2, one), half, affine.Scale(3, one))
	// 3 by the half of a half, rounded, is 1; by a half twice, rounded at each, it would be 2, and then 1; at 5 it tells.
	for a, want := range map[int64]int64{3: 1, 5: 1, 1: 0, 6: 2, 7: 2, 2: 1} {
		s.Apply(setMap(2, affine.Scale(a, one)))
		w, ok := s.World(2)
		quarter, _ := affine.Scale(a, one).Then(affine.Scale(one/4, one))
		if w != affine.Scale(want, one) || w != quarter || !ok {
			t.Errorf("%d by a quarter: %v, not %d", a, w, want)
		}
	}
	five, _ := affine.Scale(5, one).Then(half, half)
	if five == affine.Scale(1, one) {
		t.Error("this doesn't tell one from the other")
	}
}

// P13.1: what is too great on the way from below, but not from above, isn't refused; and what is so from above is.
func TestOverFromAbove(t *testing.T) {
	big, little := affine.Scale(1<<24, 1<<24), affine.Scale(1<<8, 1<<8)
	s, p := chain(t, little, big, big)
	if w, ok := s.World(2); w != big || !ok {
		t.Errorf("World %v, %v", w, ok)
	}
	if _, e := big.Then(big, little); e != api.ErrOver {
		t.Error("this doesn't tell one from the other")
	}
	s, p = chain(t, big, affine.One(), little)
	p = both(t, s, p, setMap(1, affine.Scale(1<<22, 1<<22)))
	if at, e := s.Apply(setMap(1, big)); at != 1 || e != api.ErrOver {
		t.Errorf("%d, %d", at, e)
	}
	stands(t, s, p)
}

// P13.1: worlds are asked behind all ops alone, of the nodes that are there then, each of them.
func TestOverByHand(t *testing.T) {
	big, little := affine.Scale(1<<29, one), affine.Scale(1<<15, one)
	four := affine.Scale(4*one, one)
	for k, c := range []struct {
		l  []scene.Op
		at int
		e  api.Errno
	}{
		// 0 (1 (2 (3))), and 3 is big
		{[]scene.Op{setMap(0, four)}, 1, api.ErrOver}, {[]scene.Op{setMap(1, four)}, 1, api.ErrOver}, {[]scene.Op{setMap(2, four)}, 1, api.ErrOver}, {[]scene.Op{setMap(3, four)}, 1, api.OK}, {[]scene.Op{setMap(0, affine.Scale(2*one, one))}, 1, api.OK}, {[]scene.Op{setMap(0, affine.Scale(2*one+1, one))}, 1, api.ErrOver}, {[]scene.Op{setMap(0, affine.Scale(-2*one-1, one))}, 1, api.ErrOver},
		{[]scene.Op{setMap(0, four), setMap(0, affine.One())}, 2, api.OK}, {[]scene.Op{setMap(0, four), setMap(1, little)}, 2, api.OK}, {[]scene.Op{setMap(0, four), setMap(2, little)}, 2, api.OK}, {[]scene.Op{setMap(2, four), setMap(0, little)}, 2, api.OK}, {[]scene.Op{setMap(2, four), setMap(1, four), setMap(0, four)}, 3, api.ErrOver}, {[]scene.Op{setMap(0, four), setMap(1, four), setMap(2, four), setMap(3, affine.One())}, 4, api.OK},
		{[]scene.Op{setMap(0, four), {Kind: scene.Delete, Id: 3}}, 2, api.OK}, {[]scene.Op{setMap(0, four), {Kind: scene.Delete, Id: 1}}, 2, api.OK}, {[]scene.Op{{Kind: scene.Delete, Id: 1}, setMap(0, four), setMap(1, four)}, 2, api.ErrNode}, {[]scene.Op{setMap(0, four), {Kind: scene.Delete, Id: 3}, {Kind: scene.Create, Id: 3, Parent: 2}}, 3, api.OK}, {[]scene.Op{setMap(0, four), {Kind: scene.Delete, Id: 3}, {Kind: scene.Create, Id: 3, Parent: 2}, setMap(3, big)}, 4, api.ErrOver},
		{[]scene.Op{setMap(1, four), {Kind: scene.Move, Id: 3}}, 2, api.OK}, {[]scene.Op{setMap(1, four), {Kind: scene.Move, Id: 2}}, 2, api.OK}, {[]scene.Op{setMap(2, four), {Kind: scene.Move, Id: 2}}, 2, api.ErrOver}, {[]scene.Op{{Kind: scene.Move, Id: 2}, setMap(1, four)}, 2, api.OK}, {[]scene.Op{{Kind: scene.Move, Id: 2}, setMap(1, four), {Kind: scene.Move, Id: 2, Parent: 1}}, 3, api.ErrOver}, {[]scene.Op{{Kind: scene.Move, Id: 2}, setMap(1, four), {Kind: scene.Move, Id: 2, Parent: 1}, {Kind: scene.Move, Id: 3, Parent: 0}}, 4, api.OK},
		{[]scene.Op{setMap(0, four), {Kind: 9}}, 1, api.ErrKind}, {[]scene.Op{setMap(0, four), {Kind: scene.SetHidden, Id: 3, On: true}}, 2, api.ErrOver}, {[]scene.Op{setMap(0, four), {Kind: scene.SetOpacity, Id: 3}}, 2, api.ErrOver},
		{[]scene.Op{{Kind: scene.Create, Id: 4, Parent: 3}, setMap(4, four)}, 2, api.ErrOver}, {[]scene.Op{{Kind: scene.Create, Id: 4, Parent: 3}, setMap(4, affine.Shift(1, 1))}, 2, api.OK}, {[]scene.Op{{Kind: scene.Create, Id: 4, Parent: 3}, {Kind: scene.Create, Id: 5, Parent: 4}, setMap(4, little), setMap(5, four)}, 4, api.OK},
	} {
		s, p := chain(t, affine.One(), affine.One(), affine.One(), big)
		was := s.Copy()
		at, e := s.Copy().Apply(c.l...)
		if at != c.at || e != c.e {
			t.Errorf("%d: %d, %d, not %d, %d", k, at, e, c.at, c.e)
		}
		p = both(t, s, p, c.l...)
		stands(t, s, p)
		if e != api.OK && !scene.Equal(s, was) {
			t.Errorf("%d: changed", k)
		}
	}
}

// P13.1: each of a world's six numbers may be too great, at each of many kids.
func TestOverOfEachNumber(t *testing.T) {
	const most = api.MaxFix
	for _, m := range []affine.Map{{A: most}, {B: most}, {C: most}, {D: most}, {E: most}, {F: most}, {A: -most}, {F: -most}} {
		for place := range 5 {
			s, _ := chain(t, affine.One())
			var l []scene.Op
			for id := 1; id <= 5; id++ {
				l = append(l, scene.Op{Kind: scene.Create, Id: id, Place: id - 1})
			}
			s.Apply(append(l, setMap(1+place, m))...)
			was := s.Copy()
			if at, e := s.Apply(setMap(0, affine.Scale(one+1, one+1))); at != 1 || e != api.ErrOver || !scene.Equal(s, was) {
				t.Errorf("%v at %d: %d, %d", m, place, at, e)
			}
			if w, _ := s.World(1 + place); w != m {
				t.Errorf("%v at %d: World %v", m, place, w)
			}
			if at, e := s.Apply(setMap(0, affine.Scale(-one, -one))); at != 1 || e != api.OK {
				t.Errorf("%v at %d: %d, %d", m, place, at, e)
			}
		}
	}
}

// P13.1, P13.2: ops on nodes that lie one in the other, in each order: all worlds are those of the chapter.
func TestWorldsInEachOrder(t *testing.T) {
	l := []scene.Op{setMap(0, affine.Turn(1)), setMap(1, affine.Shift(5, one)), setMap(3, affine.Scale(one/3, 2*one)), {Kind: scene.Move, Id: 4, Parent: 2}, {Kind: scene.Move, Id: 2, Parent: 1}}
	count := 0
	var orders func(done, left []scene.Op)
	orders = func(done, left []scene.Op) {
		if len(left) == 0 {
			s, p := chain(t, affine.One(), affine.Scale(2*one, one), affine.Shift(7, -7), affine.Turn(3), affine.Scale(one/5, one), affine.Shift(one, 0))
			p = both(t, s, p, done...)
			stands(t, s, p)
			count++
		}
		for k := range left {
			orders(append(slices.Clone(done), left[k]), slices.Delete(slices.Clone(left), k, k+1))
		}
	}
	orders(nil, l)
	if count != 120 {
		t.Errorf("%d orders", count)
	}
}

// P13.1, P13.2: all nodes that there may be, each in the one below it: all worlds hang on the root's map.
func TestDeepest(t *testing.T) {
	s, _ := scene.New(4096, 4096, api.MaxNodes)
	const step = 16384 // of 65535 nodes: one step less than MaxFix
	for id := 1; id < api.MaxNodes; {
		var l []scene.Op
		for ; len(l) < api.MaxOps && id < api.MaxNodes; id++ {
			l = append(l, scene.Op{Kind: scene.Create, Id: id, Parent: id - 1}, setMap(id, affine.Shift(0, step)))
		}
		if at, e := s.Apply(l...); at != len(l) || e != api.OK {
			t.Fatalf("Apply: %d, %d", at, e)
		}
	}
	const last = api.MaxNodes - 1
	falls := func(from int64) {
		t.Helper()
		for id, depth := range s.Walk() {
			if w, ok := s.World(id); id != depth || w != affine.Shift(0, from+int64(id)*step) || !ok {
				t.Fatalf("World(%d): %v, %v", id, w, ok)
			}
		}
	}
	falls(0)
	if at, e := s.Apply(setMap(0, affine.Shift(0, step+1))); at != 1 || e != api.ErrOver {
		t.Errorf("%d, %d", at, e)
	}
	falls(0)
	if at, e := s.Apply(setMap(0, affine.Shift(0, step))); at != 1 || e != api.OK {
		t.Errorf("%d, %d", at, e)
	}
	falls(step)
	c := s.Copy()
	if at, e := s.Apply(scene.Op{Kind: scene.SetOpacity, Id: last, N: 1}, scene.Op{Kind: scene.Delete, Id: 1}, scene.Op{Kind: scene.Create, Id: 1}, scene.Op{}); at != 3 || e != api.ErrKind || !scene.Equal(s, c) {
		t.Errorf("%d, %d", at, e)
	}
	if at, e := s.Apply(scene.Op{Kind: scene.Create, Id: last}); at != 0 || e != api.ErrHave {
		t.Errorf("one more: %d, %d", at, e)
	}
	falls(step)
	// From the inside out.
	var l []scene.Op
	for k := range api.MaxOps {
		l = append(l, setMap(last-k, affine.Shift(0, -step)))
	}
	if at, e := s.Apply(l...); at != len(l) || e != api.OK {
		t.Fatalf("Apply: %d, %d", at, e)
	}
	if w, _ := s.World(last); w != affine.Shift(0, step+step*int64(last-2*api.MaxOps)) {
		t.Errorf("World: %v", w)
	}
	if scene.Equal(s, c) || s.Len() != api.MaxNodes {
		t.Error("Equal")
	}
}

// P13.1, P13.2: all nodes that there may be, as kids of one node.
func TestWidest(t *testing.T) {
	s, _ := scene.New(1, 1, api.MaxNodes)
	for id := 1; id < api.MaxNodes; {
		var l []scene.Op
		for ; len(l) < api.MaxOps && id < api.MaxNodes; id++ {
			l = append(l, scene.Op{Kind: scene.Create, Id: id, Place: id - 1})
		}
		if at, e := s.Apply(l...); at != len(l) || e != api.OK {
			t.Fatalf("Apply: %d, %d", at, e)
		}
	}
	c := s.Copy()
	var l []scene.Op
	for k := range api.MaxOps - 1 {
		l = append(l, scene.Op{Kind: scene.Move, Id: k + 1, Place: api.MaxNodes - 2})
	}
	if at, e := s.Apply(append(l, scene.Op{Kind: scene.Delete})...); at != len(l) || e != api.ErrRoot || !scene.Equal(s, c) {
		t.Errorf("%d, %d", at, e)
	}
	if at, e := s.Apply(append(l, setMap(0, affine.Shift(one, 0)))...); at != len(l)+1 || e != api.OK {
		t.Errorf("%d, %d", at, e)
	}
	kids := s.Kids(0)
	if len(kids) != api.MaxNodes-1 || kids[0] != api.MaxOps || kids[api.MaxNodes-2] != api.MaxOps-1 {
		t.Errorf("%d kids", len(kids))
	}
	for _, id := range kids {
		if w, ok := s.World(id); w != affine.Shift(one, 0) || !ok {
			t.Fatalf("World(%d): %v", id, w)
		}
	}
	if n, ok := s.Node(api.MaxNodes - 1); !ok || !node.Equal(n, node.Plain()) {
		t.Errorf("Node: %v, %v", n, ok)
	}
}
