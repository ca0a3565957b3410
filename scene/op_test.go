package scene_test

import (
	"math"
	"slices"
	"testing"

	"mutoscope/affine"
	"mutoscope/api"
	"mutoscope/image"
	"mutoscope/node"
	"mutoscope/pixel"
	"mutoscope/rect"
	"mutoscope/scene"
)

// P13.1: each error of each kind by hand, and which comes ahead of which; none of them changes anything, also of ops that were done ahead of it.
func TestErrorsByHand(t *testing.T) {
	const none, wrong = 9, -1
	wide := image.Image{W: 257, H: 1, Pixels: make([]pixel.Pixel, 257)}
	for _, c := range []struct {
		o scene.Op
		e api.Errno
	}{
		{scene.Op{}, api.ErrKind}, {scene.Op{Kind: 9, Id: 1}, api.ErrKind}, {scene.Op{Kind: -1, Id: none}, api.ErrKind}, {scene.Op{Kind: 1<<32 + 1, Id: 6}, api.ErrKind}, {scene.Op{Kind: 256 + 8, Id: 1}, api.ErrKind}, {scene.Op{Kind: math.MinInt}, api.ErrKind}, {scene.Op{Kind: math.MaxInt}, api.ErrKind},
		{scene.Op{Kind: 1, Id: 0, Parent: none, Place: wrong}, api.ErrRange}, {scene.Op{Kind: 1, Id: -1}, api.ErrRange}, {scene.Op{Kind: 1, Id: 65536}, api.ErrRange}, {scene.Op{Kind: 1, Id: 1<<32 + 6}, api.ErrRange},
		{scene.Op{Kind: 1, Id: 5, Parent: none, Place: wrong}, api.ErrHave}, {scene.Op{Kind: 1, Id: 6, Parent: none, Place: wrong}, api.ErrParent}, {scene.Op{Kind: 1, Id: 6, Parent: 6}, api.ErrParent}, {scene.Op{Kind: 1, Id: 6, Place: 3}, api.ErrPlace}, {scene.Op{Kind: 1, Id: 6, Parent: 5, Place: wrong}, api.ErrPlace}, {scene.Op{Kind: 1, Id: 6, Parent: 5, Place: 1}, api.ErrPlace},
		{scene.Op{Kind: 1, Id: 6}, api.ErrArena}, {scene.Op{Kind: 1, Id: 65535, Parent: 5}, api.ErrArena}, {scene.Op{Kind: 1, Id: 6, Place: 2}, api.ErrArena},
		{scene.Op{Kind: 2}, api.ErrRoot}, {scene.Op{Kind: 2, Id: none}, api.ErrNode}, {scene.Op{Kind: 2, Id: -1}, api.ErrNode}, {scene.Op{Kind: 2, Id: 1 << 32}, api.ErrNode},
		{scene.Op{Kind: 3, Parent: none, Place: wrong}, api.ErrRoot}, {scene.Op{Kind: 3, Id: none, Parent: none, Place: wrong}, api.ErrNode}, {scene.Op{Kind: 3, Id: 1, Parent: none, Place: wrong}, api.ErrParent}, {scene.Op{Kind: 3, Id: 1, Parent: 1, Place: wrong}, api.ErrCycle}, {scene.Op{Kind: 3, Id: 1, Parent: 5}, api.ErrCycle}, {scene.Op{Kind: 3, Id: 1, Place: 2}, api.ErrPlace}, {scene.Op{Kind: 3, Id: 5, Parent: 1, Place: wrong}, api.ErrPlace},
		{scene.Op{Kind: 4, Id: none, Map: affine.Shift(1<<31, 0)}, api.ErrNode}, {scene.Op{Kind: 4, Id: -1, Map: affine.One()}, api.ErrNode}, {scene.Op{Kind: 4, Id: 2, Map: affine.Shift(1<<30+1, 0)}, api.ErrRange}, {scene.Op{Kind: 4, Map: affine.Scale(one, -1<<30-1)}, api.ErrRange},
		{scene.Op{Kind: 5, Id: none, Clip: rect.Rect{X1: 1}}, api.ErrNode}, {scene.Op{Kind: 5, Id: 2, Clip: rect.Rect{X1: 1}}, api.ErrForm}, {scene.Op{Kind: 5, Id: 4, Clip: rect.Rect{X1: 16385}}, api.ErrForm}, {scene.Op{Kind: 5, Id: 2, On: true, Clip: rect.Rect{X1: 16385}}, api.ErrRange}, {scene.Op{Kind: 5, On: true, Clip: rect.Rect{Y0: -16385}}, api.ErrRange},
		{scene.Op{Kind: 6, Id: none, N: 256}, api.ErrNode}, {scene.Op{Kind: 6, Id: 2, N: 256}, api.ErrRange}, {scene.Op{Kind: 6, N: -1}, api.ErrRange}, {scene.Op{Kind: 6, Id: 5, N: 1 << 32}, api.ErrRange},
		{scene.Op{Kind: 7, Id: none, Look: node.Look{Kind: 3}}, api.ErrNode}, {scene.Op{Kind: 7, Id: 2, Look: node.Look{Kind: 3}}, api.ErrRange}, {scene.Op{Kind: 7, Look: node.Look{W: 1}}, api.ErrForm}, {scene.Op{Kind: 7, Id: 5, Look: node.FillOf(1, 1, 0x100)}, api.ErrForm}, {scene.Op{Kind: 7, Id: 5, Look: node.FillOf(4097, 1, 0)}, api.ErrRange}, {scene.Op{Kind: 7, Id: 2, Look: node.ImageOf(small(0, 0x100))}, api.ErrForm}, {scene.Op{Kind: 7, Id: 2, Look: node.Look{Kind: node.Image}}, api.ErrForm}, {scene.Op{Kind: 7, Id: 2, Look: node.ImageOf(wide)}, api.ErrForm},
		{scene.Op{Kind: 8, Id: none}, api.ErrNode}, {scene.Op{Kind: 8, Id: 1 << 32, On: true}, api.ErrNode},
	} {
		s, p := sample(t, 6)
		if at, e := s.Apply(c.o); at != 0 || e != c.e {
			t.Errorf("%v: %d, %d, not %d", c.o, at, e, c.e)
		}
		ahead := []scene.Op{{Kind: scene.SetMap, Id: 5, Map: affine.Shift(7, 8)}, {Kind: scene.SetLook, Id: 5, Look: node.FillOf(9, 9, 0)}, {Kind: scene.SetHidden, Id: 1, On: true}}
		if at, e := s.Apply(append(ahead, c.o, scene.Op{Kind: 77})...); at != 3 || e != c.e {
			t.Errorf("%v behind three: %d, %d, not %d", c.o, at, e, c.e)
		}
		stands(t, s, p, upTo(9)...)
		if !scene.Equal(s, p.made(t)) {
			t.Errorf("%v: changed", c.o)
		}
	}
}

// P13.1: what each kind does to the tree, and to the one node that it names; all else stays as it is, and what isn't named plays no part.
func TestKindsByHand(t *testing.T) {
	all := []row{{0, 0}, {1, 1}, {3, 2}, {4, 2}, {5, 3}, {2, 1}}
	shift, clip, look := affine.Shift(5, 6), rect.Of(0, 0, 2, 2), node.FillOf(3, 3, 255)
	for _, c := range []struct {
		kind, id int
		rows     []row
		set      func(n *node.Node)
	}{
		{scene.Create, 6, []row{{0, 0}, {1, 1}, {3, 2}, {4, 2}, {5, 3}, {2, 1}, {6, 2}}, func(n *node.Node) { *n = node.Plain() }},
		{scene.Delete, 4, []row{{0, 0}, {1, 1}, {3, 2}, {2, 1}}, func(n *node.Node) { *n = node.Node{} }},
		{scene.Move, 4, []row{{0, 0}, {1, 1}, {3, 2}, {2, 1}, {4, 2}, {5, 3}}, func(n *node.Node) {}},
		{scene.SetMap, 4, all, func(n *node.Node) { n.Map = shift }},
		{scene.SetClip, 4, all, func(n *node.Node) { n.Clipped, n.Clip = true, clip }},
		{scene.SetOpacity, 4, all, func(n *node.Node) { n.Opacity = 9 }},
		{scene.SetLook, 4, all, func(n *node.Node) { n.Look = look }},
		{scene.SetHidden, 4, all, func(n *node.Node) { n.Hidden = true }},
	} {
		s, _ := sample(t, 7)
		other := s.Copy()
		want, _ := s.Node(c.id)
		c.set(&want)
		o := scene.Op{Kind: c.kind, Id: c.id, Parent: 2, Map: shift, Clip: clip, On: true, N: 9, Look: look}
		if at, e := s.Apply(o); at != 1 || e != api.OK {
			t.Fatalf("kind %d: %d, %d", c.kind, at, e)
		}
		if n, ok := s.Node(c.id); !node.Equal(n, want) || ok != (c.kind != scene.Delete) {
			t.Errorf("kind %d: %v, %v, not %v", c.kind, n, ok, want)
		}
		if got := walked(s); !slices.Equal(got, c.rows) {
			t.Errorf("kind %d: %v, not %v", c.kind, got, c.rows)
		}
		unchanged(t, s, c.id)
		if at, e := other.Apply(onlyNamed(o)); at != 1 || e != api.OK || !scene.Equal(s, other) {
			t.Errorf("kind %d: %d, %d, or what isn't named plays a part", c.kind, at, e)
		}
	}
}

// onlyNamed is o with nothing but what its kind names.
func onlyNamed(o scene.Op) scene.Op {
	l := []scene.Op{1: {Parent: o.Parent, Place: o.Place}, 2: {}, 3: {Parent: o.Parent, Place: o.Place}, 4: {Map: o.Map}, 5: {On: o.On, Clip: o.Clip}, 6: {N: o.N}, 7: {Look: o.Look}, 8: {On: o.On}}
	l[o.Kind].Kind, l[o.Kind].Id = o.Kind, o.Id
	return l[o.Kind]
}

// unchanged fails if another node of s than id isn't what it is in a sample.
func unchanged(t *testing.T, s *scene.Scene, id int) {
	t.Helper()
	was, _ := sample(t, 7)
	for other := range s.Walk() {
		n, _ := s.Node(other)
		if wasN, _ := was.Node(other); other != id && !node.Equal(n, wasN) {
			t.Errorf("node %d: %v, not %v", other, n, wasN)
		}
	}
}

// P13.1: what is set is taken away again, and is set where all else of a node is set, too.
func TestSetByHand(t *testing.T) {
	s, p := sample(t, 6)
	img := node.ImageOf(someImage(1, 256, 256))
	for _, l := range [][]scene.Op{
		{{Kind: scene.SetLook, Id: 4, Look: img}}, {{Kind: scene.SetOpacity, Id: 4, N: 0}}, {{Kind: scene.SetOpacity, Id: 4, N: 255}}, {{Kind: scene.SetClip, Id: 4}}, {{Kind: scene.SetClip, Id: 4, On: true}}, {{Kind: scene.SetClip, Id: 4, On: true, Clip: rect.Rect{X0: 16384, Y0: -16384, X1: -16384, Y1: 16384}}}, {{Kind: scene.SetHidden, Id: 4, On: true}}, {{Kind: scene.SetHidden, Id: 4}},
		{{Kind: scene.SetMap, Id: 4, Map: affine.Map{}}}, {{Kind: scene.SetMap, Id: 4, Map: affine.Shift(1<<28, -1<<28)}}, {{Kind: scene.SetLook, Id: 4}}, {{Kind: scene.SetLook, Id: 4, Look: img}}, {{Kind: scene.SetLook, Id: 4, Look: node.Look{Image: image.Image{Pixels: []pixel.Pixel{}}}}},
		{{Kind: scene.SetOpacity, N: 1}, {Kind: scene.SetHidden, On: true}, {Kind: scene.SetClip, On: true, Clip: rect.Of(0, 0, 1, 1)}, {Kind: scene.SetLook, Look: node.FillOf(4096, 4096, 0xffffffff)}, {Kind: scene.SetMap, Map: affine.Turn(3)}},
		{{Kind: scene.SetOpacity, Id: 5, N: 1}, {Kind: scene.SetOpacity, Id: 5, N: 2}, {Kind: scene.SetOpacity, Id: 5, N: 3}, {Kind: scene.SetMap, Id: 5, Map: affine.Turn(1)}, {Kind: scene.SetMap, Id: 5, Map: affine.Turn(2)}},
	} {
		behind, at, e := p.apply(l...)
		if at != len(l) || e != api.OK || behind.equal(p) {
			t.Fatalf("%v: %d, %d", l, at, e)
		}
		p = both(t, s, p, l...)
		stands(t, s, p, upTo(7)...)
	}
}

// P13.1: how many nodes there may be, counted at each op; an id that is gone makes room, and comes again plain.
func TestArena(t *testing.T) {
	create := func(id int) scene.Op { return scene.Op{Kind: scene.Create, Id: id} }
	gone := func(id int) scene.Op { return scene.Op{Kind: scene.Delete, Id: id} }
	s, _ := scene.New(1, 1, 1)
	if at, e := s.Apply(create(1)); at != 0 || e != api.ErrArena || s.Len() != 1 || s.Has(1) {
		t.Errorf("one: %d, %d", at, e)
	}
	for _, c := range []struct {
		l  []scene.Op
		at int
		e  api.Errno
	}{
		{[]scene.Op{create(1), create(2)}, 2, api.OK},
		{[]scene.Op{create(1), create(2), create(3)}, 2, api.ErrArena},
		{[]scene.Op{create(1), create(2), gone(1), create(3)}, 4, api.OK},
		{[]scene.Op{create(1), create(2), gone(1), create(1), create(3)}, 4, api.ErrArena},
		{[]scene.Op{create(1), create(2), create(3), gone(1)}, 2, api.ErrArena},
		{[]scene.Op{create(1), create(2), create(2)}, 2, api.ErrHave},
		{[]scene.Op{create(1), {Kind: scene.Create, Id: 2, Parent: 1}, gone(1), create(2), create(1)}, 5, api.OK},
	} {
		s, _ := scene.New(1, 1, 3)
		p := newPlain(1, 1, 3)
		if _, at, e := p.apply(c.l...); at != c.at || e != c.e {
			t.Fatalf("%v: %d, %d", c.l, at, e)
		}
		p = both(t, s, p, c.l...)
		stands(t, s, p, upTo(4)...)
	}
	s, p := sample(t, 6)
	p = both(t, s, p, gone(4), scene.Op{Kind: scene.Create, Id: 5, Parent: 2}, create(4))
	if n, ok := s.Node(5); !ok || !node.Equal(n, node.Plain()) {
		t.Errorf("again: %v, %v", n, ok)
	}
	stands(t, s, p, upTo(7)...)
}

// P13.1: as many ops as there may be, and one more, whatever they are.
func TestMany(t *testing.T) {
	s, p := sample(t, 6)
	var l []scene.Op
	for k := range 1024 {
		l = append(l, scene.Op{Kind: scene.SetOpacity, Id: k % 6, N: k % 256})
	}
	p = both(t, s, p, l...)
	if n, _ := s.Node(3); n.Opacity != 1023%256 && n.Opacity != 1017%256 {
		t.Errorf("Opacity %d", n.Opacity)
	}
	stands(t, s, p, upTo(7)...)
	for _, more := range [][]scene.Op{append(l, l[0]), make([]scene.Op, 1025), make([]scene.Op, 5000)} {
		if at, e := s.Apply(more...); at != 0 || e != api.ErrMany {
			t.Errorf("%d ops: %d, %d", len(more), at, e)
		}
	}
	l[1023].Kind = 0
	l[5].N = 99
	if at, e := s.Apply(l...); at != 1023 || e != api.ErrKind {
		t.Errorf("the last one: %d, %d", at, e)
	}
	if at, e := s.Apply(); at != 0 || e != api.OK {
		t.Errorf("none: %d, %d", at, e)
	}
	stands(t, s, p, upTo(7)...)
}

// someOps is ops of all kinds on a sample, mostly such as aren't refused.
func someOps() []scene.Op {
	var l []scene.Op
	for _, id := range []int{1, 2, 4, 5} {
		l = append(l, scene.Op{Kind: scene.Delete, Id: id}, scene.Op{Kind: scene.Create, Id: id + 6, Parent: id}, scene.Op{Kind: scene.Create, Id: id, Parent: 2})
		for _, parent := range []int{0, 1, 2, 4} {
			l = append(l, scene.Op{Kind: scene.Move, Id: id, Parent: parent}, scene.Op{Kind: scene.Move, Id: id, Parent: parent, Place: 1})
		}
	}
	for _, id := range []int{0, 1, 4, 5} {
		l = append(l, scene.Op{Kind: scene.SetMap, Id: id, Map: affine.Scale(1<<24, one)}, scene.Op{Kind: scene.SetMap, Id: id, Map: affine.Shift(-one, 1)}, scene.Op{Kind: scene.SetMap, Id: id, Map: affine.Scale(one/256, 2*one)})
	}
	return append(l, scene.Op{Kind: scene.SetLook, Id: 5, Look: node.FillOf(1, 1, 0)}, scene.Op{Kind: scene.SetClip, Id: 4}, scene.Op{Kind: scene.SetOpacity, Id: 2}, scene.Op{Kind: scene.SetHidden, Id: 1, On: true})
}

// P13.1: each two ops, one behind the other, are done as the chapter says; with one more that is refused, or a world that can't be, none is.
func TestPairs(t *testing.T) {
	l := someOps()
	made, p := sample(t, 7)
	count := map[api.Errno]int{}
	for _, a := range l {
		for _, b := range l {
			for _, last := range []scene.Op{{Kind: scene.SetHidden, Id: 2}, {}, {Kind: scene.SetMap, Map: affine.Scale(1<<30, 1<<30)}} {
				s := made.Copy()
				_, _, e := p.apply(a, b, last)
				stands(t, s, both(t, s, p, a, b, last))
				if count[e]++; e != api.OK && !scene.Equal(s, made) {
					t.Fatalf("%v, %v, %v: %d, and changed", a, b, last, e)
				}
			}
		}
	}
	stands(t, made, p)
	if count[api.OK] < 500 || count[api.ErrKind] < 500 || count[api.ErrOver] < 500 {
		t.Errorf("asked of too few: %v", count)
	}
}
