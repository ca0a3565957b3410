package flat_test

import (
	"slices"
	"testing"

	"mutoscope/affine"
	"mutoscope/flat"
	"mutoscope/node"
	"mutoscope/noise"
	"mutoscope/rect"
	"mutoscope/scene"
	"mutoscope/scenery"
)

// family is a scene of clipped nodes with images, of which some lie in the same ones.
func family(t *testing.T) *scene.Scene {
	t.Helper()
	next := noise.Numbers(4)
	n := func(k int) node.Node {
		n := clipped(affine.Shift(int64(k), one), rect.Of(0, -k, 9, 9))
		n.Look = node.ImageOf(noise.Image(next, 2, 3))
		return n
	}
	s := made(t, n(0), n(1), n(2), n(3))
	do(t, s, scene.Op{Kind: scene.Create, Id: 4, Parent: 1}, scene.Op{Kind: scene.Create, Id: 5, Parent: 3}, scene.Op{Kind: scene.Create, Id: 6, Parent: 3})
	for id, k := range map[int]int{4: 4, 5: 5, 6: 6} {
		do(t, s, scenery.Set(id, n(k))...)
	}
	// One that isn't clipped has the same clips as the node that it lies in.
	do(t, s, scene.Op{Kind: scene.SetClip, Id: 5})
	return s
}

// spoil turns all that an item's lists have, and their spare room.
func spoil(i flat.Item) {
	for k := range i.Clips[:cap(i.Clips)] {
		i.Clips[:cap(i.Clips)][k] = flat.Clip{Rect: rect.Rect{X0: -7}}
	}
	l := i.Look.Image.Pixels[:cap(i.Look.Image.Pixels)]
	for k := range l {
		l[k] ^= 0xffffffff
	}
}

// The rule of memory: no two lists of one answer share any, nor do two answers, nor an answer and the scene.
func TestListMemory(t *testing.T) {
	s := family(t)
	want, was := plainList(s), s.Copy()
	for k := range want {
		a, b := flat.List(s), flat.List(s)
		spoil(a[k])
		for j := range want {
			if j != k && !same(a[j], want[j]) {
				t.Errorf("item %d shares memory with item %d", k, j)
			}
		}
		if !slices.EqualFunc(b, want, same) || !scene.Equal(s, was) || !slices.EqualFunc(flat.List(s), want, same) {
			t.Errorf("what was told of item %d is shared", k)
		}
	}
	a := flat.List(s)
	a = a[:cap(a)]
	clear(a)
	listed(t, s)
}

// What List told stays as it was told, whatever is done to the scene.
func TestListStays(t *testing.T) {
	s := family(t)
	want, l := plainList(s), flat.List(s)
	for id := range 7 {
		do(t, s, scene.Op{Kind: scene.SetClip, Id: id, On: true, Clip: rect.Of(1, 1, 2, 2)}, scene.Op{Kind: scene.SetMap, Id: id, Map: affine.Scale(2*one, one)}, scene.Op{Kind: scene.SetLook, Id: id, Look: node.FillOf(1, 1, 1)})
	}
	do(t, s, scene.Op{Kind: scene.Delete, Id: 1})
	if !slices.EqualFunc(l, want, same) {
		t.Errorf("%v, not %v", l, want)
	}
}

// The rule of memory: At, Covers and Equal leave what they are handed, and ask it anew each time.
func TestAsksMemory(t *testing.T) {
	s := family(t)
	want, l := plainList(s), flat.List(s)
	for k := range l {
		l[k].Clips = append(l[k].Clips, flat.Clip{})[:len(l[k].Clips)]
	}
	asked(t, l, rect.Of(-2, -2, 9, 9))
	if !flat.Equal(l[1], want[1]) || flat.Equal(l[1], want[2]) || !slices.EqualFunc(l, want, same) {
		t.Errorf("%v, not %v", l, want)
	}
	for _, i := range l {
		if len(i.Clips) != 0 {
			i.Clips[0].Rect = rect.Of(1, 0, 2, 9)
		}
		i.Look.Image.Pixels[3] = 0xff
	}
	asked(t, l, rect.Of(-2, -2, 9, 9))
	if flat.Equal(l[1], want[1]) {
		t.Error("Equal")
	}
}
