package scene_test

import (
	"iter"
	"math"
	"reflect"
	"slices"
	"testing"

	"mutoscope/affine"
	"mutoscope/api"
	"mutoscope/node"
	"mutoscope/noise"
	"mutoscope/rect"
	"mutoscope/scene"
)

// The calls and types that the chapter lists, by their signatures.
var (
	_ func(w, h, nodes int) (*scene.Scene, api.Errno)           = scene.New
	_ func(s *scene.Scene) (w, h, nodes int)                    = (*scene.Scene).Size
	_ func(s *scene.Scene, l ...scene.Op) (at int, e api.Errno) = (*scene.Scene).Apply
	_ func(s *scene.Scene, id int) (node.Node, bool)            = (*scene.Scene).Node
	_ func(s *scene.Scene, id int) (affine.Map, bool)           = (*scene.Scene).World
	_ func(s *scene.Scene) *scene.Scene                         = (*scene.Scene).Copy
	_ func(a, b *scene.Scene) bool                              = scene.Equal
	_ func(s *scene.Scene, ids ...int) bool                     = (*scene.Scene).Has
	_ func(s *scene.Scene, id int) int                          = (*scene.Scene).Parent
	_ func(s *scene.Scene, id int) []int                        = (*scene.Scene).Kids
	_ func(s *scene.Scene, id, other int) bool                  = (*scene.Scene).Within
	_ func(s *scene.Scene) int                                  = (*scene.Scene).Len
	_ func(s *scene.Scene) iter.Seq2[int, int]                  = (*scene.Scene).Walk
	_ struct {
		Kind, Id, Parent, Place int
		Map                     affine.Map
		Clip                    rect.Rect
		On                      bool
		N                       int
		Look                    node.Look
	} = scene.Op{}
)

// Of its tree's calls a scene has those that ask, and not those by which it would be another one than its nodes'.
func TestCalls(t *testing.T) {
	var names []string
	x := reflect.TypeFor[*scene.Scene]()
	for k := range x.NumMethod() {
		names = append(names, x.Method(k).Name)
	}
	want := []string{"Apply", "Copy", "Has", "Kids", "Len", "Node", "Parent", "Size", "Walk", "Within", "World"}
	if !slices.Equal(names, want) {
		t.Errorf("%v, not %v", names, want)
	}
	for k := range x.Elem().NumField() {
		if f := x.Elem().Field(k); f.IsExported() {
			t.Errorf("a field %s", f.Name)
		}
	}
}

// The kinds have the chapter's numbers: they stand in logs.
func TestKinds(t *testing.T) {
	got := []int{scene.Create, scene.Delete, scene.Move, scene.SetMap, scene.SetClip, scene.SetOpacity, scene.SetLook, scene.SetHidden}
	if !slices.Equal(got, []int{1, 2, 3, 4, 5, 6, 7, 8}) {
		t.Errorf("%v", got)
	}
}

// P13.1, P13.2: the chapter's example.
func TestExample(t *testing.T) {
	s, e := scene.New(1, 1, 2)
	if e != api.OK {
		t.Fatalf("New: %d", e)
	}
	at, e := s.Apply(scene.Op{Kind: scene.Create, Id: 1}, scene.Op{Kind: scene.SetMap, Id: 1, Map: affine.Shift(3*one, 0)}, scene.Op{Kind: scene.SetMap, Map: affine.Shift(0, one)})
	if w, ok := s.World(1); at != 3 || e != api.OK || !ok || w != affine.Shift(3*one, one) {
		t.Errorf("Apply: %d, %d, World: %v, %v", at, e, w, ok)
	}
}

// P13.1: New of sides and numbers at their bounds, and past them.
func TestNew(t *testing.T) {
	numbers := []int{0, 1, 2, 4095, 4096, 4097, 65535, 65536, 65537, -1, 1 << 31, 1 << 32, 1<<32 + 1, -1 << 32, math.MaxInt, math.MinInt}
	for _, w := range numbers {
		for _, h := range numbers {
			for _, most := range numbers {
				s, e := scene.New(w, h, most)
				if w < 1 || w > 4096 || h < 1 || h > 4096 || most < 1 || most > 65536 {
					if s != nil || e != api.ErrRange {
						t.Fatalf("New(%d, %d, %d): %d", w, h, most, e)
					}
					continue
				}
				if s == nil || e != api.OK {
					t.Fatalf("New(%d, %d, %d): %d", w, h, most, e)
				}
				stands(t, s, newPlain(w, h, most), upTo(2)...)
			}
		}
	}
}

// Two new scenes share nothing.
func TestNewOnes(t *testing.T) {
	a, _ := scene.New(3, 2, 5)
	b, _ := scene.New(3, 2, 5)
	if !scene.Equal(a, b) || a == b {
		t.Error("not Equal")
	}
	a.Apply(scene.Op{Kind: scene.Create, Id: 1}, scene.Op{Kind: scene.SetOpacity, N: 3})
	stands(t, b, newPlain(3, 2, 5), upTo(2)...)
}

// P13.1, P13.2: rows of transactions, with a copy that is taken now and then, goes on its own way, and takes the other's place now and then.
func TestWalks(t *testing.T) {
	count := map[api.Errno]int{}
	for seed := range 500 {
		next := noise.Numbers(uint64(seed))
		below := func(n int) int { return int(next() % uint64(n)) }
		most := 2 + below(12)
		draw := drawn(next, most+below(2))
		some := func(p plain) []scene.Op {
			var l []scene.Op
			for range below(2 + below(9)) {
				l = append(l, draw(p))
			}
			return l
		}
		s, e := scene.New(1+below(9), 1+below(9), most)
		if e != api.OK {
			t.Fatalf("New: %d", e)
		}
		w, h, _ := s.Size()
		p := newPlain(w, h, most)
		other, q := s.Copy(), p
		for range 40 {
			l := some(p)
			_, _, e := p.apply(l...)
			count[e]++
			p = both(t, s, p, l...)
			switch below(12) {
			case 0:
				other, q = s.Copy(), p
			case 1:
				s, p, other, q = other, q, s, p
			case 2:
				q = both(t, other, q, some(q)...)
			}
			if scene.Equal(s, other) != p.equal(q) || scene.Equal(other, s) != p.equal(q) {
				t.Fatalf("Equal: %v", scene.Equal(s, other))
			}
			stands(t, s, p, upTo(most+1)...)
		}
		stands(t, other, q, upTo(most+1)...)
		if !scene.Equal(s, p.made(t)) || !scene.Equal(q.made(t), other) {
			t.Fatal("made anew: not Equal")
		}
	}
	for _, e := range []api.Errno{api.OK, api.ErrForm, api.ErrRange, api.ErrHave, api.ErrNode, api.ErrParent, api.ErrCycle, api.ErrRoot, api.ErrPlace, api.ErrOver, api.ErrArena, api.ErrKind} {
		if count[e] < 30 {
			t.Errorf("error %d: %d times", e, count[e])
		}
	}
}

// sample is the scene 0 (1 (3 4 (5)) 2) of room for most nodes, with something set of each node.
func sample(t *testing.T, most int) (*scene.Scene, plain) {
	t.Helper()
	s, e := scene.New(8, 6, most)
	if e != api.OK {
		t.Fatalf("New: %d", e)
	}
	p := both(t, s, newPlain(8, 6, most),
		scene.Op{Kind: scene.Create, Id: 1}, scene.Op{Kind: scene.Create, Id: 2, Place: 1}, scene.Op{Kind: scene.Create, Id: 3, Parent: 1},
		scene.Op{Kind: scene.Create, Id: 4, Parent: 1, Place: 1}, scene.Op{Kind: scene.Create, Id: 5, Parent: 4},
		scene.Op{Kind: scene.SetMap, Id: 0, Map: affine.Shift(one, 2*one)}, scene.Op{Kind: scene.SetMap, Id: 1, Map: affine.Scale(3*one, one/2)},
		scene.Op{Kind: scene.SetMap, Id: 4, Map: affine.Turn(1)}, scene.Op{Kind: scene.SetMap, Id: 5, Map: affine.Map{A: 5, B: -7, C: 70000, D: -30000, E: 99999, F: 12345}},
		scene.Op{Kind: scene.SetOpacity, Id: 2, N: 7}, scene.Op{Kind: scene.SetHidden, Id: 3, On: true}, scene.Op{Kind: scene.SetClip, Id: 4, On: true, Clip: rect.Of(1, 2, 3, 4)},
		scene.Op{Kind: scene.SetLook, Id: 5, Look: node.ImageOf(small(255, 0x010203ff))}, scene.Op{Kind: scene.SetLook, Id: 3, Look: node.FillOf(2, 1, 255)})
	if s.Len() != 6 {
		t.Fatalf("Len %d", s.Len())
	}
	stands(t, s, p, upTo(7)...)
	return s, p
}

// P13.2: Node and World of none, Has, Parent, Kids and Within of none: ids far off among them.
func TestNone(t *testing.T) {
	s, p := sample(t, 6)
	for _, id := range append(far(), 6) {
		n, ok := s.Node(id)
		w, okWorld := s.World(id)
		if ok || okWorld || !reflect.DeepEqual(n, node.Node{}) || w != (affine.Map{}) || s.Has(id) || s.Parent(id) != -1 || len(s.Kids(id)) != 0 || s.Within(id, 0) || s.Within(1, id) {
			t.Errorf("%d: %v, %v, %v, %v", id, n, ok, w, okWorld)
		}
	}
	stands(t, s, p, append(far(), 6)...)
}

// P13.2: Equal of scenes that differ in one thing, each of them, and of those made in another way.
func TestEqual(t *testing.T) {
	_, p := sample(t, 9)
	s := p.made(t)
	for k, q := range []plain{{9, 6, 9, p.tree, p.nodes}, {8, 7, 9, p.tree, p.nodes}, {8, 6, 10, p.tree, p.nodes}, {6, 8, 9, p.tree, p.nodes}} {
		if x := q.made(t); scene.Equal(s, x) || scene.Equal(x, s) {
			t.Errorf("of another size, %d: Equal", k)
		}
	}
	for _, o := range []scene.Op{
		{Kind: scene.Create, Id: 6}, {Kind: scene.Create, Id: 65535, Parent: 5}, {Kind: scene.Delete, Id: 2}, {Kind: scene.Delete, Id: 1}, {Kind: scene.Move, Id: 2}, {Kind: scene.Move, Id: 3, Parent: 2}, {Kind: scene.Move, Id: 3, Parent: 1, Place: 1},
		{Kind: scene.SetMap, Id: 2, Map: affine.Shift(1, 0)}, {Kind: scene.SetMap, Id: 5, Map: affine.One()}, {Kind: scene.SetMap, Map: affine.One()},
		{Kind: scene.SetClip, Id: 5, On: true}, {Kind: scene.SetClip, Id: 4}, {Kind: scene.SetClip, Id: 4, On: true, Clip: rect.Of(1, 2, 3, 5)},
		{Kind: scene.SetOpacity, Id: 5, N: 254}, {Kind: scene.SetOpacity}, {Kind: scene.SetHidden, Id: 3}, {Kind: scene.SetHidden, On: true},
		{Kind: scene.SetLook, Id: 5}, {Kind: scene.SetLook, Id: 5, Look: node.ImageOf(small(254, 0x010203ff))}, {Kind: scene.SetLook, Id: 5, Look: node.ImageOf(small(255, 0x010204ff))}, {Kind: scene.SetLook, Id: 3, Look: node.FillOf(2, 1, 254)}, {Kind: scene.SetLook, Id: 0, Look: node.FillOf(1, 1, 0)},
	} {
		x := s.Copy()
		if !scene.Equal(s, x) || !scene.Equal(x, s) || !scene.Equal(s, s) {
			t.Fatal("a copy isn't Equal")
		}
		if at, e := x.Apply(o); at != 1 || e != api.OK {
			t.Fatalf("Apply %v: %d", o, e)
		}
		if scene.Equal(s, x) || scene.Equal(x, s) {
			t.Errorf("%v: still Equal", o)
		}
	}
	// There and back again, and by many ops that leave nothing.
	x := s.Copy()
	x.Apply(scene.Op{Kind: scene.Move, Id: 1, Parent: 2}, scene.Op{Kind: scene.Create, Id: 8, Parent: 5}, scene.Op{Kind: scene.SetMap, Id: 1, Map: affine.One()})
	if scene.Equal(s, x) {
		t.Error("Equal")
	}
	x.Apply(scene.Op{Kind: scene.Move, Id: 1}, scene.Op{Kind: scene.Delete, Id: 8}, scene.Op{Kind: scene.SetMap, Id: 1, Map: affine.Scale(3*one, one/2)})
	if !scene.Equal(s, x) || !scene.Equal(x, s) {
		t.Error("back again: not Equal")
	}
	stands(t, x, p, upTo(9)...)
}

// P1: no call panics at any numbers, and a refused one changes nothing.
func TestAllArguments(t *testing.T) {
	numbers := append(far(), 0, 1, 2, 3, 4, 5, 6, 7, 8, 9)
	next := noise.Numbers(7)
	one := func() int { return numbers[next()%uint64(len(numbers))] }
	clip := func() rect.Rect { return rect.Rect{X0: one(), Y0: one(), X1: one(), Y1: one()} }
	m := func() affine.Map {
		return affine.Map{A: int64(one()), B: int64(one()), C: int64(one()), D: int64(one()), E: int64(one()), F: int64(one())}
	}
	s, p := sample(t, 8)
	ids := append(far(), upTo(9)...)
	for k := range 20000 {
		look := someLooks()[next()%uint64(len(someLooks()))]
		if next()%4 == 0 {
			look.Kind, look.W, look.Image.H = one(), one(), one()
		}
		o := scene.Op{Kind: one(), Id: one(), Parent: one(), Place: one(), Map: m(), Clip: clip(), On: next()%2 == 0, N: one(), Look: look}
		if next()%2 == 0 {
			o.Id = int(next() % 8)
		}
		p = both(t, s, p, o)
		if k%500 == 0 {
			stands(t, s, p, ids...)
			s, p = sample(t, 8)
		}
	}
}
