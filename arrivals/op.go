package arrivals

import (
	"math"

	"mutoscope/affine"
	"mutoscope/image"
	"mutoscope/node"
	"mutoscope/noise"
	"mutoscope/pixel"
	"mutoscope/rect"
	"mutoscope/scene"
)

// AnyOp tells an op of any numbers, often noughts, with one of Looks; mostly its
// Kind is one of the eight.
func AnyOp(next func() uint64) scene.Op {
	l := Looks()
	o := scene.Op{
		Kind: signed(next), Id: signed(next), Parent: signed(next), Place: signed(next), On: flag(next), N: signed(next), Look: l[below(next, len(l))],
		Map:  affine.Map{A: int64(signed(next)), B: int64(signed(next)), C: int64(signed(next)), D: int64(signed(next)), E: int64(signed(next)), F: int64(signed(next))},
		Clip: rect.Rect{X0: signed(next), Y0: signed(next), X1: signed(next), Y1: signed(next)},
	}
	if below(next, 8) > 0 {
		o.Kind = 1 + below(next, 8)
	}
	return o
}

// FullOp tells an op in which all is set, and no two numbers are the same.
func FullOp(kind int) scene.Op {
	return scene.Op{
		Kind: kind, Id: 101, Parent: 102, Place: 103, Map: affine.Map{A: 104, B: 105, C: 106, D: 107, E: 108, F: 109}, Clip: rect.Rect{X0: 110, Y0: 111, X1: 112, Y1: 113}, On: true, N: 114,
		Look: node.Look{Kind: 115, W: 116, H: 117, Color: 118, Image: image.Image{W: 119, H: 120, Pixels: []pixel.Pixel{121, 122}}},
	}
}

// Looks tells right ones of each kind, and others.
func Looks() []node.Look {
	next := noise.Numbers(2)
	return []node.Look{
		{}, node.FillOf(2, 1, 255), node.ImageOf(noise.Image(next, 3, 2)), node.ImageOf(noise.Image(next, 1, 1)), {Image: image.Image{Pixels: []pixel.Pixel{}}},
		{Kind: 3}, {Kind: math.MinInt, W: 1, H: -1, Color: 0x100}, node.FillOf(0, 4097, 0x100), {W: 1}, {Kind: node.Image}, {Image: image.Image{W: -1, H: 5}},
		{Kind: node.Fill, W: 1, H: 1, Color: 7, Image: noise.Image(next, 2, 1)}, {Kind: node.Image, W: 3, H: 4, Color: 1, Image: noise.Image(next, 2, 3)}, {Kind: node.Image, Image: image.Image{W: 2, H: 1, Pixels: []pixel.Pixel{1, 2, 3}}},
	}
}

// Far tells numbers about the bounds of all kinds and ids, of fewer bits, and of all numbers.
func Far() []int {
	return []int{0, 1, 2, 7, -1, -2, 8, 9, 255, 256, 257, 263, -255, 1 << 16, 1<<16 + 1, 1 << 31, 1 << 32, 1<<32 + 1, 1<<32 + 7, -1 << 32, 1 << 62, math.MaxInt, math.MinInt, math.MinInt + 1}
}

// filledOp tells o with a look and a number that its Kind may not have.
func filledOp(o scene.Op) scene.Op {
	if o.Kind != scene.SetLook {
		o.Look.Kind, o.Look.W = 9, -1
	}
	if o.Kind != scene.SetOpacity {
		o.N = 999
	}
	return o
}

// number tells any number: few bits are as likely as many, and a third are noughts.
func number(next func() uint64) uint64 {
	n := next() >> (next() % 64)
	if below(next, 3) == 0 {
		return 0
	}
	return n
}

func signed(next func() uint64) int {
	n := int(number(next))
	if flag(next) {
		return -n
	}
	return n
}

func flag(next func() uint64) bool {
	return below(next, 2) == 0
}

func below(next func() uint64, n int) int {
	return int(next() % uint64(n))
}
