package event_test

import (
	"math"
	"reflect"
	"slices"
	"testing"

	"mutoscope/affine"
	"mutoscope/event"
	"mutoscope/image"
	"mutoscope/node"
	"mutoscope/noise"
	"mutoscope/pixel"
	"mutoscope/rect"
	"mutoscope/scene"
)

// plainEvent is e's plain form, by the chapter's words: all is unset that isn't a field of its Kind, or, in its ops, of theirs.
func plainEvent(e event.Event) event.Event {
	e.Ops = slices.Clone(e.Ops)
	keep(reflect.ValueOf(&e).Elem(), e.Kind, map[string][]int{"Ops": {1}, "X": {2}, "Y": {2}, "N": {3, 4, 5}})
	for k := range e.Ops {
		e.Ops[k] = plainOp(e.Ops[k])
	}
	return e
}

func plainOp(o scene.Op) scene.Op {
	keep(reflect.ValueOf(&o).Elem(), o.Kind, map[string][]int{
		"Id": {1, 2, 3, 4, 5, 6, 7, 8}, "Parent": {1, 3}, "Place": {1, 3}, "Map": {4}, "On": {5, 8}, "Clip": {5}, "N": {6}, "Look": {7},
	})
	return o
}

// keep leaves v its Kind, and those fields for which its Kind is named.
func keep(v reflect.Value, kind int, named map[string][]int) {
	for k := range v.NumField() {
		if name := v.Type().Field(k).Name; name != "Kind" && !slices.Contains(named[name], kind) {
			v.Field(k).SetZero()
		}
	}
}

// leaves is all numbers and bools in v, those of its lists too.
func leaves(v reflect.Value) []reflect.Value {
	var l []reflect.Value
	switch v.Kind() {
	case reflect.Struct:
		for k := range v.NumField() {
			l = append(l, leaves(v.Field(k))...)
		}
	case reflect.Slice:
		for k := range v.Len() {
			l = append(l, leaves(v.Index(k))...)
		}
	default:
		l = append(l, v)
	}
	return l
}

// row is all that v has as one row of numbers, how long its lists are, too: those of two things are the same just if these are, nil and empty lists being one.
func row(v reflect.Value) []uint64 {
	var l []uint64
	switch {
	case v.Kind() == reflect.Struct:
		for k := range v.NumField() {
			l = append(l, row(v.Field(k))...)
		}
	case v.Kind() == reflect.Slice:
		l = append(l, uint64(v.Len()))
		for k := range v.Len() {
			l = append(l, row(v.Index(k))...)
		}
	case v.Kind() == reflect.Bool && v.Bool():
		l = append(l, 1)
	case v.Kind() == reflect.Bool:
		l = append(l, 0)
	case v.CanInt():
		l = append(l, uint64(v.Int()))
	default:
		l = append(l, v.Uint())
	}
	return l
}

// same is whether all of both is the same, by their rows.
func same[T any](a, b T) bool {
	return slices.Equal(row(reflect.ValueOf(a)), row(reflect.ValueOf(b)))
}

// stands fails if e isn't want.
func stands(t *testing.T, e, want event.Event) {
	t.Helper()
	if !same(e, want) {
		t.Fatalf("%v, not %v", e, want)
	}
}

// farNumbers is numbers about the bounds of all kinds and ids, of fewer bits, and of all numbers.
func farNumbers() []int {
	return []int{0, 1, 2, 7, -1, -2, 8, 9, 255, 256, 257, 263, -255, 1 << 16, 1<<16 + 1, 1 << 31, 1 << 32, 1<<32 + 1, 1<<32 + 7, -1 << 32, 1 << 62, math.MaxInt, math.MinInt, math.MinInt + 1}
}

// someLooks is right ones of each kind, and others.
func someLooks() []node.Look {
	next := noise.Numbers(2)
	return []node.Look{
		{}, node.FillOf(2, 1, 255), node.ImageOf(noise.Image(next, 3, 2)), node.ImageOf(noise.Image(next, 1, 1)), {Image: image.Image{Pixels: []pixel.Pixel{}}},
		{Kind: 3}, {Kind: math.MinInt, W: 1, H: -1, Color: 0x100}, node.FillOf(0, 4097, 0x100), {W: 1}, {Kind: node.Image}, {Image: image.Image{W: -1, H: 5}},
		{Kind: node.Fill, W: 1, H: 1, Color: 7, Image: noise.Image(next, 2, 1)}, {Kind: node.Image, W: 3, H: 4, Color: 1, Image: noise.Image(next, 2, 3)}, {Kind: node.Image, Image: image.Image{W: 2, H: 1, Pixels: []pixel.Pixel{1, 2, 3}}},
	}
}

// fullOp is an op in which everything is set, and no two numbers are the same.
func fullOp(kind int) scene.Op {
	return scene.Op{
		Kind: kind, Id: 101, Parent: 102, Place: 103, Map: affine.Map{A: 104, B: 105, C: 106, D: 107, E: 108, F: 109}, Clip: rect.Rect{X0: 110, Y0: 111, X1: 112, Y1: 113}, On: true, N: 114,
		Look: node.Look{Kind: 115, W: 116, H: 117, Color: 118, Image: image.Image{W: 119, H: 120, Pixels: []pixel.Pixel{121, 122}}},
	}
}

// fullEvent is an event in which everything is set, with an op of each kind, and some of none.
func fullEvent(kind int) event.Event {
	e := event.Event{Kind: kind, X: 201, Y: 202, N: 203}
	for k := -1; k < 11; k++ {
		e.Ops = append(e.Ops, fullOp(k))
	}
	return e
}

// drawnOp is an op of which each number is often nought, or any one; mostly its Kind is one of the eight.
func drawnOp(next func() uint64) scene.Op {
	l := someLooks()
	o := scene.Op{Look: l[next()%uint64(len(l))]}
	v := reflect.ValueOf(&o).Elem()
	for k := range v.NumField() {
		if v.Type().Field(k).Name != "Look" {
			draw(next, v.Field(k))
		}
	}
	if next()%8 > 0 {
		o.Kind = 1 + int(next()%8)
	}
	return o
}

// drawnEvent is an event of up to four such ops, and the same of its numbers.
func drawnEvent(next func() uint64) event.Event {
	var e event.Event
	draw(next, reflect.ValueOf(&e).Elem())
	for range next() % 5 {
		e.Ops = append(e.Ops, drawnOp(next))
	}
	if next()%8 > 0 {
		e.Kind = 1 + int(next()%6)
	}
	return e
}

// draw sets all numbers and bools in v.
func draw(next func() uint64, v reflect.Value) {
	for _, leaf := range leaves(v) {
		n := next() >> (next() % 64)
		switch {
		case next()%3 == 0:
			leaf.SetZero()
		case leaf.Kind() == reflect.Bool:
			leaf.SetBool(n%2 == 0)
		case leaf.CanInt():
			leaf.SetInt(int64(n) * int64(1-2*(next()%2)))
		default:
			leaf.SetUint(n)
		}
	}
}
