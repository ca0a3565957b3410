package scene_test

import (
	"iter"
	"maps"
	"math"
	"slices"
	"testing"

	"mutoscope/affine"
	"mutoscope/api"
	"mutoscope/image"
	"mutoscope/node"
	"mutoscope/noise"
	"mutoscope/pixel"
	"mutoscope/rect"
	"mutoscope/scene"
	"mutoscope/tree"
)

const one = api.One

// plain is a scene by the chapter's words: whatever is done, it is done on a copy of all, which is thrown away if it has an error; and no world is kept.
type plain struct {
	w, h, most int
	tree       *tree.Tree
	nodes      map[int]node.Node
}

func newPlain(w, h, most int) plain {
	return plain{w, h, most, tree.New(), map[int]node.Node{0: node.Plain()}}
}

// apply is the scene behind ops, and what Apply tells of them.
func (p plain) apply(l ...scene.Op) (plain, int, api.Errno) {
	if len(l) > 1024 {
		return p, 0, api.ErrMany
	}
	behind := plain{p.w, p.h, p.most, p.tree.Clone(), maps.Clone(p.nodes)}
	for k, o := range l {
		if e := behind.do(o); e != api.OK {
			return p, k, e
		}
	}
	if !behind.worldsAre() {
		return p, len(l), api.ErrOver
	}
	return behind, len(l), api.OK
}

// do does one op; of one with an error something may be done.
func (p plain) do(o scene.Op) api.Errno {
	switch o.Kind {
	case 1:
		if e := p.tree.Add(o.Id, o.Parent, o.Place); e != api.OK {
			return e
		}
		if p.tree.Len() > p.most {
			return api.ErrArena
		}
		p.nodes[o.Id] = node.Plain()
		return api.OK
	case 2:
		gone, e := p.tree.Remove(o.Id)
		for _, id := range gone {
			delete(p.nodes, id)
		}
		return e
	case 3:
		return p.tree.Move(o.Id, o.Parent, o.Place)
	case 4, 5, 6, 7, 8:
		n, ok := p.nodes[o.Id]
		if !ok {
			return api.ErrNode
		}
		p.nodes[o.Id] = behind(n, o)
		return p.nodes[o.Id].Check()
	}
	return api.ErrKind
}

// behind is the node n, as it is behind an op that sets something.
func behind(n node.Node, o scene.Op) node.Node {
	n = n.Copy()
	switch o.Kind {
	case 4:
		n.Map = o.Map
	case 5:
		n.Clipped = o.On
		n.Clip = o.Clip
	case 6:
		n.Opacity = o.N
	case 7:
		n.Look = o.Look
	case 8:
		n.Hidden = o.On
	}
	return n.Copy()
}

// world is a node's world, and whether it can be.
func (p plain) world(id int) (affine.Map, bool) {
	m := p.nodes[id].Map
	if id == 0 {
		return m, true
	}
	w, ok := p.world(p.tree.Parent(id))
	if !ok {
		return affine.Map{}, false
	}
	m, e := m.Then(w)
	return m, e == api.OK
}

func (p plain) worldsAre() bool {
	for id := range p.nodes {
		if _, ok := p.world(id); !ok {
			return false
		}
	}
	return true
}

// equal is whether as much may be, and is, in both.
func (p plain) equal(q plain) bool {
	return p.w == q.w && p.h == q.h && p.most == q.most && tree.Same(p.tree, q.tree) && maps.EqualFunc(p.nodes, q.nodes, node.Equal)
}

// made is a scene of all that is in p.
func (p plain) made(t *testing.T) *scene.Scene {
	t.Helper()
	s, e := scene.New(p.w, p.h, p.most)
	if e != api.OK {
		t.Fatalf("New(%d, %d, %d): %d", p.w, p.h, p.most, e)
	}
	var l []scene.Op
	for id := range p.tree.Walk() {
		if id != 0 {
			l = append(l, scene.Op{Kind: scene.Create, Id: id, Parent: p.tree.Parent(id), Place: slices.Index(p.tree.Kids(p.tree.Parent(id)), id)})
		}
		n := p.nodes[id]
		l = append(l, setAll(id, n)...)
	}
	if at, e := s.Apply(l...); at != len(l) || e != api.OK {
		t.Fatalf("Apply: %d, %d", at, e)
	}
	return s
}

// setAll is ops by which the node id is n.
func setAll(id int, n node.Node) []scene.Op {
	return []scene.Op{
		{Kind: scene.SetMap, Id: id, Map: n.Map},
		{Kind: scene.SetClip, Id: id, On: n.Clipped, Clip: n.Clip},
		{Kind: scene.SetOpacity, Id: id, N: n.Opacity},
		{Kind: scene.SetLook, Id: id, Look: n.Look},
		{Kind: scene.SetHidden, Id: id, On: n.Hidden},
	}
}

// both does ops on a scene and on a plain one, and fails if they don't tell the same.
func both(t *testing.T, s *scene.Scene, p plain, l ...scene.Op) plain {
	t.Helper()
	behind, wantAt, want := p.apply(l...)
	if at, e := s.Apply(l...); at != wantAt || e != want {
		t.Fatalf("Apply %v: %d, %d, not %d, %d", l, at, e, wantAt, want)
	}
	return behind
}

// stands fails if s tells anything else than p, also of the ids l.
func stands(t *testing.T, s *scene.Scene, p plain, l ...int) {
	t.Helper()
	if w, h, most := s.Size(); w != p.w || h != p.h || most != p.most {
		t.Fatalf("Size: %d, %d, %d", w, h, most)
	}
	if got, want := walked(s), walked(p.tree); !slices.Equal(got, want) || s.Len() != p.tree.Len() {
		t.Fatalf("Len %d, Walk %v, not %v", s.Len(), got, want)
	}
	for id := range p.nodes {
		l = append(l, id)
	}
	for _, id := range l {
		standsNode(t, s, p, id)
		for _, other := range l {
			if s.Within(id, other) != p.tree.Within(id, other) || s.Has(id, other) != p.tree.Has(id, other) {
				t.Fatalf("Within(%d, %d) %v, Has %v", id, other, s.Within(id, other), s.Has(id, other))
			}
		}
	}
}

// standsNode fails if s tells anything else than p of one id.
func standsNode(t *testing.T, s *scene.Scene, p plain, id int) {
	t.Helper()
	want, there := p.nodes[id]
	n, ok := s.Node(id)
	if ok != there || !node.Equal(n, want) || n.Check() != want.Check() {
		t.Fatalf("Node(%d): %v, %v, not %v, %v", id, n, ok, want, there)
	}
	wantWorld := affine.Map{}
	if there {
		wantWorld, _ = p.world(id)
	}
	if w, ok := s.World(id); ok != there || w != wantWorld {
		t.Fatalf("World(%d): %v, %v, not %v, %v", id, w, ok, wantWorld, there)
	}
	if s.Has(id) != there || s.Parent(id) != p.tree.Parent(id) || !slices.Equal(s.Kids(id), p.tree.Kids(id)) {
		t.Fatalf("Has(%d) %v, Parent %d, Kids %v", id, s.Has(id), s.Parent(id), s.Kids(id))
	}
}

// row is a node, and how many nodes it lies within.
type row struct{ id, depth int }

// walked is all that Walk of a scene, or of a tree, tells.
func walked(x interface{ Walk() iter.Seq2[int, int] }) []row {
	var l []row
	for id, depth := range x.Walk() {
		l = append(l, row{id, depth})
	}
	return l
}

// upTo is the numbers from -1 to most.
func upTo(most int) []int {
	var l []int
	for k := -1; k <= most; k++ {
		l = append(l, k)
	}
	return l
}

// far is numbers about the bounds of ids, and of fewer bits, and of all numbers; none is a node of a small scene, though the low bits of some are.
func far() []int {
	return []int{-1, -2, 255, 256, 65534, 65535, 65536, 65537, -65535, -65536, 1 << 31, 1 << 32, 1<<32 + 1, -1 << 32, 1 << 62, math.MaxInt, math.MinInt, math.MinInt + 1}
}

// small is an image of 2 by 1 pixels.
func small(a, b pixel.Pixel) image.Image {
	return image.Image{W: 2, H: 1, Pixels: []pixel.Pixel{a, b}}
}

// someMaps is right ones, of which rows do what can't be, and others that aren't right.
func someMaps() []affine.Map {
	return []affine.Map{
		affine.One(), affine.Shift(3*one, -one), affine.Shift(1, 1), affine.Turn(1), affine.Scale(3*one/2, one/2), affine.Scale(1, 3), affine.Scale(1<<23, 1<<23), affine.Scale(one/64, one/64), affine.Shift(1<<29, 1<<29), affine.Shift(-1<<29-1, 0), {}, {A: 5, B: -7, C: 70000, D: -30000, E: 99999, F: 12345},
		affine.Scale(1<<30, one), affine.Shift(1<<30+1, 0), affine.Scale(one, math.MinInt64),
	}
}

func someLooks() []node.Look {
	return []node.Look{
		{}, node.FillOf(2, 1, 255), node.ImageOf(small(0xff, 0x010203ff)), node.ImageOf(small(0, 1)),
		node.FillOf(0, 1, 255), node.FillOf(1, 1, 0x100), {W: 1}, {Kind: 3}, node.ImageOf(small(0, 0x100)),
	}
}

// drawn tells ops of ids up to most, by what next tells: mostly such as aren't refused by p.
func drawn(next func() uint64, most int) func(p plain) scene.Op {
	below := func(n int) int { return int(next() % uint64(n)) }
	seldom := func() bool { return below(24) == 0 }
	clips := []rect.Rect{{}, rect.Of(0, 0, 1, 1), {X0: 5, X1: -5}, {X0: -16384, Y0: 16384, X1: 16384, Y1: -16384}, {Y0: -16385}}
	return func(p plain) scene.Op {
		o := scene.Op{Kind: []int{1, 1, 1, 1, 3, 3, 3, 4, 4, 4, 4, 2, 5, 6, 7, 8}[below(16)], Id: below(most + 1), Parent: below(most + 1)}
		for k := 0; k < 9 && p.tree.Has(o.Id) == (o.Kind == scene.Create); k++ {
			o.Id = below(most + 1)
		}
		for k := 0; k < 9 && (!p.tree.Has(o.Parent) || p.tree.Within(o.Parent, o.Id)); k++ {
			o.Parent = below(most + 1)
		}
		o.Place = below(len(p.tree.Kids(o.Parent)) + 1)
		o.Map, o.Look, o.Clip, o.N = someMaps()[below(12)], someLooks()[below(4)], clips[below(4)], below(256)
		o.On = below(2) == 0 || o.Kind == scene.SetClip && o.Clip != rect.Rect{}
		if seldom() {
			o.Map, o.Look, o.Clip, o.N = someMaps()[below(len(someMaps()))], someLooks()[below(len(someLooks()))], clips[below(5)], below(600)-200
		}
		if seldom() {
			o.Id, o.On = below(most+2)-1, !o.On
		}
		if seldom() {
			o.Parent, o.Place = below(most+2)-1, below(6)-1
		}
		if seldom() && seldom() {
			o.Kind = 9
		}
		return o
	}
}

// someImage is an image without a pattern.
func someImage(seed uint64, w, h int) image.Image {
	return noise.Image(noise.Numbers(seed), w, h)
}
