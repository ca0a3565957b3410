package hit_test

import (
	"math"
	"slices"
	"testing"

	"mutoscope/affine"
	"mutoscope/api"
	"mutoscope/flat"
	"mutoscope/hit"
	"mutoscope/image"
	"mutoscope/node"
	"mutoscope/noise"
	"mutoscope/pixel"
	"mutoscope/rect"
	"mutoscope/scene"
	"mutoscope/scenery"
)

// The calls that the chapter lists, by their signatures.
var (
	_ func(s *scene.Scene, x, y int) (id int, ok bool)       = hit.At
	_ func(s *scene.Scene, x, y int) []int                   = hit.All
	_ func(s *scene.Scene, id, x, y int) (u, v int, ok bool) = hit.Local
)

// P18.1: the chapter's example: two fills at one place.
func TestExample(t *testing.T) {
	s := scenery.Of(4, 4, fill(1, 1, 2, 2, 0xff), fill(1, 1, 2, 2, 0xff))
	if id, ok := hit.At(s, 2, 2); id != 2 || !ok {
		t.Errorf("At: %d, %v", id, ok)
	}
	do(t, s, scene.Op{Kind: scene.Move, Id: 2})
	if id, ok := hit.At(s, 2, 2); id != 1 || !ok {
		t.Errorf("At, the other way round: %d, %v", id, ok)
	}
}

// P18.1: by hand: the order is that of the walk, and the root's id is 0, of which At tells that it is hit.
func TestByHand(t *testing.T) {
	s := scenery.Of(9, 9, fill(0, 0, 4, 1, 0xff), fill(1, 0, 4, 1, 0xff))
	do(t, s, scenery.Put(7, 1, 0, fill(2, 0, 1, 1, 0xff))...)
	do(t, s, scene.Op{Kind: scene.SetLook, Look: node.FillOf(8, 1, 0xff)})
	l := flat.List(s)
	for x, want := range [][]int{{1, 0}, {2, 1, 0}, {2, 7, 1, 0}, {2, 1, 0}, {2, 0}, {0}, {0}, {0}, nil} {
		if all := asked(t, s, l, x, 0); !slices.Equal(all, want) {
			t.Errorf("All(%d, 0): %v, not %v", x, all, want)
		}
		if below := asked(t, s, l, x, 1); len(below) != 0 {
			t.Errorf("All(%d, 1): %v", x, below)
		}
	}
	if id, ok := hit.At(s, 5, 0); id != 0 || !ok {
		t.Errorf("the root: %d, %v", id, ok)
	}
	if id, ok := hit.At(s, 8, 0); id != 0 || ok {
		t.Errorf("nothing: %d, %v", id, ok)
	}
}

// P18.1: what covers a pixel is hit, whatever its colour is; what isn't an item, or is cut, isn't.
func TestWhatIsHit(t *testing.T) {
	clear := image.Image{W: 1, H: 1, Pixels: []pixel.Pixel{0}}
	for k, c := range []struct {
		set func(n *node.Node)
		hit bool
	}{
		{func(n *node.Node) {}, true},
		{func(n *node.Node) { n.Look = node.FillOf(1, 1, 0) }, true},
		{func(n *node.Node) { n.Look = node.ImageOf(clear) }, true},
		{func(n *node.Node) { n.Opacity = 1 }, true},
		{func(n *node.Node) { n.Opacity = 0 }, false},
		{func(n *node.Node) { n.Hidden = true }, false},
		{func(n *node.Node) { n.Look = node.Look{} }, false},
		{func(n *node.Node) { n.Clipped, n.Clip = true, rect.Of(0, 0, 1, 1) }, true},
		{func(n *node.Node) { n.Clipped, n.Clip = true, rect.Of(1, 0, 9, 9) }, false},
		{func(n *node.Node) { n.Clipped = true }, false},
		{func(n *node.Node) { n.Map = affine.Scale(one, 0) }, false},
		{func(n *node.Node) { n.Map = affine.Shift(one/2, one/2) }, true},
		{func(n *node.Node) { n.Map = affine.Shift(one/2+1, 0) }, false},
	} {
		s := scenery.Of(1, 1, fill(0, 0, 1, 1, 0xff), scenery.With(func(n *node.Node) {
			n.Look = node.FillOf(1, 1, 0xff)
			c.set(n)
		}))
		want := []int{1}
		if c.hit {
			want = []int{2, 1}
		}
		if all := asked(t, s, flat.List(s), 0, 0); !slices.Equal(all, want) {
			t.Errorf("%d: %v, not %v", k, all, want)
		}
	}
}

// P18.1: pixels needn't be of the scene's frame, but of numbers at the bounds, and not past them, though the item covers these, too.
func TestBounds(t *testing.T) {
	// A pixel of the look is 16384 pixels wide: the one look goes on far past the greatest number, the other one far past the least.
	up, back := affine.Scale(1<<30, 1<<30), affine.Scale(-1<<30, -1<<30)
	up.E, up.F, back.E, back.F = -1<<30, -1<<30, 1<<30, 1<<30
	s := scenery.Of(1, 1, scenery.Filled(up, 4096, 4096), scenery.Filled(back, 4096, 4096))
	l := flat.List(s)
	numbers := []int{-16384, -16383, -1, 0, 1, 16382, 16383, -16385, 16384, -16386, 16385, 32767, -32768, 1<<15 + 1}
	covered := 0
	for j, x := range numbers {
		for k, y := range numbers {
			all := asked(t, s, l, x, y)
			if within := j < 7 && k < 7; within != (len(all) > 0) {
				t.Errorf("All(%d, %d): %v", x, y, all)
			} else if !within && slices.ContainsFunc(l, func(i flat.Item) bool { return i.Covers(x, y) }) {
				covered++
			}
		}
	}
	if covered < 30 {
		t.Errorf("%d pixels past the bounds are covered", covered)
	}
}

// P18.1: of pixels so far that their numbers have no room, or wrap round to near ones, nothing is hit.
func TestFar(t *testing.T) {
	s := scenery.Of(9, 9, fill(-20, -20, 4096, 4096, 0xff), fill(0, 0, 9, 9, 0xff))
	l := flat.List(s)
	for _, far := range []int{1 << 16, 1 << 31, 1<<31 - 1, -1 << 31, 1 << 32, 1<<32 + 1, -1 << 32, 1 << 40, 1 << 47, 1 << 48, -1 << 48, 1 << 62, math.MaxInt, math.MinInt} {
		for _, near := range []int{0, 5, far} {
			if a, b := asked(t, s, l, far, near), asked(t, s, l, near, far); len(a) != 0 || len(b) != 0 {
				t.Errorf("%d, %d: %v, %v", far, near, a, b)
			}
		}
	}
}

// P18.1: scenes without a pattern, at each pixel of the frame and about it; they are changed again and again, and asking changes nothing.
func TestScenes(t *testing.T) {
	hits, many, none := 0, 0, 0
	for seed := range uint64(60) {
		next := noise.Numbers(seed)
		s := scenery.Scene(next, 12, 9, 1+int(seed%20))
		for range 4 {
			was, l := s.Copy(), flat.List(s)
			for y := -3; y < 12; y++ {
				for x := -3; x < 15; x++ {
					switch n := len(asked(t, s, l, x, y)); n {
					case 0:
						none++
					case 1:
						hits++
					default:
						many++
					}
				}
			}
			if !scene.Equal(s, was) {
				t.Fatal("the scene isn't what it was")
			}
			for range 3 {
				s.Apply(scenery.Op(next, s))
			}
		}
	}
	if least := min(hits, many, none); least < 5000 {
		t.Errorf("%d with none, %d with one, %d with more", none, hits, many)
	}
}

// The rule of memory: what All told is no other answer's, its spare room neither, and stays what it is.
func TestMemory(t *testing.T) {
	s := scenery.Of(2, 2, fill(0, 0, 2, 2, 1), fill(0, 0, 2, 2, 2), fill(0, 0, 2, 2, 3))
	a, b := hit.All(s, 1, 1), hit.All(s, 1, 1)
	a = a[:cap(a)]
	for k := range a {
		a[k] = -7
	}
	do(t, s, scene.Op{Kind: scene.Delete, Id: 2})
	if want := []int{3, 2, 1}; !slices.Equal(b, want) || !slices.Equal(hit.All(s, 1, 1), []int{3, 1}) {
		t.Errorf("%v, not %v", b, want)
	}
	// Nothing of an answer is kept for the next one, and each scene is asked itself.
	other := s.Copy()
	do(t, other, scene.Op{Kind: scene.SetHidden, Id: 3, On: true})
	if id, _ := hit.At(other, 0, 0); id != 1 {
		t.Errorf("the copy: %d", id)
	}
	if id, _ := hit.At(s, 0, 0); id != 3 {
		t.Errorf("the first one: %d", id)
	}
}

// P18.1: as many nodes as there may be, all at one pixel.
func TestMostNodes(t *testing.T) {
	s := scenery.Of(2, 1)
	want := make([]int, api.MaxNodes-1)
	for id := 1; id < api.MaxNodes; {
		var ops []scene.Op
		for ; id < api.MaxNodes && len(ops) < api.MaxOps-1; id++ {
			ops = append(ops, scene.Op{Kind: scene.Create, Id: id, Place: id - 1}, scene.Op{Kind: scene.SetLook, Id: id, Look: node.FillOf(1, 1, 0xff)})
			want[len(want)-id] = id
		}
		do(t, s, ops...)
	}
	if all := hit.All(s, 0, 0); !slices.Equal(all, want) {
		t.Errorf("%d are hit", len(all))
	}
	if id, ok := hit.At(s, 0, 0); id != api.MaxNodes-1 || !ok {
		t.Errorf("At: %d, %v", id, ok)
	}
	if all := hit.All(s, 1, 0); len(all) != 0 {
		t.Errorf("beside: %d are hit", len(all))
	}
}

// P1: scenes of nothing that is shown, and each two of very different numbers: all calls end.
func TestNothing(t *testing.T) {
	s, _ := scene.New(1, 1, 1)
	numbers := []int{0, -1, 1, 16383, 16384, -16384, -16385, 1 << 31, 1 << 62, math.MaxInt, math.MinInt}
	for _, x := range numbers {
		for _, y := range numbers {
			if all := asked(t, s, nil, x, y); len(all) != 0 {
				t.Errorf("All(%d, %d): %v", x, y, all)
			}
		}
	}
}

// P18.1, P18.2: the deepest scene: the last of its nodes is hit, and it lies where all maps from the root down take it.
func TestDeepest(t *testing.T) {
	const last = api.MaxNodes - 1
	s := scenery.Of(1, 1)
	for id := 1; id <= last; {
		var ops []scene.Op
		for ; id <= last && len(ops) < api.MaxOps-1; id++ {
			ops = append(ops, scene.Op{Kind: scene.Create, Id: id, Parent: id - 1}, scene.Op{Kind: scene.SetMap, Id: id, Map: affine.Shift(one/16, 0)})
		}
		do(t, s, ops...)
	}
	do(t, s, scene.Op{Kind: scene.SetLook, Id: last, Look: node.FillOf(2, 1, 0xff)})
	for x, want := range map[int]bool{4094: false, 4095: false, 4096: true, 4097: true, 4098: false} {
		id, ok := hit.At(s, x, 0)
		if ok != want || ok && id != last || len(hit.All(s, x, 0)) != min(1, id) {
			t.Errorf("At(%d, 0): %d, %v", x, id, ok)
		}
		// All shifts together are 4095 15/16.
		if u, v, ok := hit.Local(s, last, x, 0); u != x-4096 || v != 0 || !ok {
			t.Errorf("Local at %d: %d, %d, %v", x, u, v, ok)
		}
	}
}
