package flat_test

import (
	"slices"
	"testing"

	"mutoscope/affine"
	"mutoscope/flat"
	"mutoscope/image"
	"mutoscope/node"
	"mutoscope/noise"
	"mutoscope/pixel"
	"mutoscope/rect"
	"mutoscope/scene"
	"mutoscope/scenery"
)

// P14.2: Equal of items of which one thing differs, each one in turn.
func TestEqualEachPart(t *testing.T) {
	m := noise.Image(noise.Numbers(7), 3, 2)
	l := listed(t, made(t, clipped(affine.Shift(5, 5), rect.Of(0, 0, 9, 9)), clipped(affine.One(), rect.Of(1, 1, 8, 8)), scenery.With(func(n *node.Node) { n.Look = node.ImageOf(m) })))
	other, _ := affine.Scale(3*one, one).Back()
	changes := []func(i *flat.Item){
		func(i *flat.Item) {},
		func(i *flat.Item) { i.Id++ }, func(i *flat.Item) { i.Opacity-- }, func(i *flat.Item) { i.Back = other },
		func(i *flat.Item) { i.World.A++ }, func(i *flat.Item) { i.World.B++ }, func(i *flat.Item) { i.World.C++ }, func(i *flat.Item) { i.World.D++ }, func(i *flat.Item) { i.World.E++ }, func(i *flat.Item) { i.World.F++ },
		func(i *flat.Item) { i.Clips = i.Clips[:1] }, func(i *flat.Item) { i.Clips = i.Clips[1:] }, func(i *flat.Item) { i.Clips = nil }, func(i *flat.Item) { i.Clips = append(i.Clips, i.Clips[1]) }, func(i *flat.Item) { slices.Reverse(i.Clips) },
		func(i *flat.Item) { i.Clips[0].Back = other }, func(i *flat.Item) { i.Clips[1].Back = other }, func(i *flat.Item) { i.Clips[0].Rect.X0++ }, func(i *flat.Item) { i.Clips[1].Rect.Y0++ }, func(i *flat.Item) { i.Clips[0].Rect.X1++ }, func(i *flat.Item) { i.Clips[1].Rect.Y1++ },
		func(i *flat.Item) { i.Look.Kind = 1 }, func(i *flat.Item) { i.Look.W = 1 }, func(i *flat.Item) { i.Look.H = 1 }, func(i *flat.Item) { i.Look.Color = 1 }, func(i *flat.Item) { i.Look.Image.W++ }, func(i *flat.Item) { i.Look.Image.H++ },
		func(i *flat.Item) { i.Look = node.Look{} }, func(i *flat.Item) { i.Look = node.FillOf(3, 2, 0xff) },
		func(i *flat.Item) { i.Look.Image.Pixels = i.Look.Image.Pixels[:5] }, func(i *flat.Item) { i.Look.Image.Pixels = append(i.Look.Image.Pixels, 0) },
	}
	for k := range m.Pixels {
		changes = append(changes, func(i *flat.Item) { i.Look.Image.Pixels[k] ^= 0x80000000 })
	}
	for a, f := range changes {
		for b, g := range changes {
			if (a == 0 || b == 0) && flat.Equal(changed(l[0], f), changed(l[0], g)) != (a == b) {
				t.Errorf("Equal of the changes %d and %d: %v", a, b, a != b)
			}
		}
	}
}

// changed is a copy of i, that shares no memory with it, and in which f changed something.
func changed(i flat.Item, f func(i *flat.Item)) flat.Item {
	i.Clips = slices.Clone(i.Clips)
	i.Look.Image = i.Look.Image.Copy()
	f(&i)
	return i
}

// P14.2: Equal of each two items of some scenes, and of their copies.
func TestEqualOfItems(t *testing.T) {
	var l []flat.Item
	for seed := range uint64(12) {
		s := scenery.Scene(noise.Numbers(seed), 9, 9, 12)
		l = append(l, listed(t, s)...)
		l = append(l, listed(t, s.Copy())...)
		s.Apply(scene.Op{Kind: scene.SetOpacity, Id: 1, N: 77})
		l = append(l, listed(t, s)...)
	}
	count := map[bool]int{}
	for _, a := range l {
		for _, b := range l {
			is := flat.Equal(a, b)
			if is != same(a, b) {
				t.Fatalf("Equal(%v, %v): %v", a, b, is)
			}
			count[is]++
		}
	}
	if count[true] < 2*len(l) || count[false] < 100 {
		t.Errorf("asked of too few: %v", count)
	}
}

// Nil and empty lists are one, and spare room is none of a list.
func TestEqualLists(t *testing.T) {
	none, spare := flat.Item{}, flat.Item{Clips: make([]flat.Clip, 0, 3), Look: node.Look{Image: image.Image{Pixels: make([]pixel.Pixel, 0, 3)}}}
	some, more := flat.Item{Clips: make([]flat.Clip, 1)}, flat.Item{Clips: make([]flat.Clip, 1, 9)}
	if !flat.Equal(none, spare) || !flat.Equal(spare, none) || !flat.Equal(some, more) || flat.Equal(none, some) || flat.Equal(more, spare) {
		t.Error("Equal")
	}
}
