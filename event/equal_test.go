package event_test

import (
	"math"
	"reflect"
	"slices"
	"testing"

	"mutoscope/arrivals"
	"mutoscope/event"
	"mutoscope/image"
	"mutoscope/node"
	"mutoscope/noise"
	"mutoscope/pixel"
	"mutoscope/scene"
)

// asked tells what Equal of both, either way round, and EqualOps of their ops tell, and fails if that isn't what their rows tell.
func asked(t *testing.T, a, b event.Event) bool {
	t.Helper()
	want, wantOps := same(a, b), same(a.Ops, b.Ops)
	if event.Equal(a, b) != want || event.Equal(b, a) != want {
		t.Fatalf("Equal(%v, %v) isn't %v", a, b, want)
	}
	if event.EqualOps(a.Ops, b.Ops) != wantOps || event.EqualOps(b.Ops, a.Ops) != wantOps {
		t.Fatalf("EqualOps(%v, %v) isn't %v", a.Ops, b.Ops, wantOps)
	}
	return want
}

// P19.2: Equal and EqualOps by hand.
func TestEqualByHand(t *testing.T) {
	a, b := scene.Op{Kind: scene.Delete, Id: 1}, scene.Op{Kind: scene.Delete, Id: 2}
	for k, c := range []struct {
		a, b event.Event
		same bool
	}{
		{event.Event{}, event.Event{}, true}, {event.At(1, 2), event.At(1, 2), true}, {event.At(1, 2), event.At(2, 1), false}, {event.At(1, 2), event.Event{X: 1, Y: 2}, false},
		{event.Number(3, 7), event.Number(3, 7), true}, {event.Number(3, 7), event.Number(4, 7), false}, {event.Number(5, math.MaxUint64), event.Number(5, math.MaxUint64-1), false}, {event.Number(99, 7), event.Number(99, 7), true},
		{event.Of(), event.Event{Kind: 1}, true}, {event.Of(), event.Event{Kind: 1, Ops: []scene.Op{}}, true}, {event.Event{Ops: []scene.Op{}}, event.Event{}, true}, {event.Of(), event.Event{}, false},
		{event.Of(a, b), event.Of(a, b), true}, {event.Of(a, b), event.Of(b, a), false}, {event.Of(a, b), event.Of(a), false}, {event.Of(a), event.Of(), false}, {event.Of(a), event.Of(a, a), false}, {event.Of(scene.Op{}), event.Of(), false},
		// What a kind doesn't have is held against the other's, too.
		{event.Number(6, 7), event.Number(6, 7).Plain(), false}, {event.Event{Kind: 2, Ops: []scene.Op{a}}, event.Event{Kind: 2}, false}, {event.Event{Kind: 1, X: 1}, event.Of(), false}, {event.Of(arrivals.FullOp(2)), event.Of(arrivals.FullOp(2)).Plain(), false},
	} {
		if asked(t, c.a, c.b) != c.same {
			t.Errorf("%d: not %v", k, c.same)
		}
	}
}

// P19.2: Equal of events that differ in one bit of one number, each of them, those of ops and their pixels, too, whatever the kinds are.
func TestEqualOfEachBit(t *testing.T) {
	l := []event.Event{{}, event.Of(scene.Op{}, scene.Op{})}
	for kind := range 10 {
		e := arrivals.Full(kind)
		e.Ops = []scene.Op{arrivals.FullOp(kind), arrivals.FullOp(9 - kind)}
		l = append(l, e)
	}
	for _, look := range arrivals.Looks() {
		l = append(l, event.Event{Ops: []scene.Op{{Kind: scene.SetLook, Look: look}, {Look: look}}})
	}
	turned := 0
	for _, e := range l {
		c := arrivals.Copy(e)
		for _, leaf := range leaves(reflect.ValueOf(&c).Elem()) {
			for bit := range width(leaf) {
				turn(leaf, bit)
				turned++
				if asked(t, e, c) {
					t.Fatalf("%v and %v are Equal", e, c)
				}
				turn(leaf, bit)
			}
		}
		if !asked(t, e, c) {
			t.Fatalf("%v and %v aren't Equal", e, c)
		}
	}
	if turned < 50000 {
		t.Errorf("%d bits", turned)
	}
}

// width is how many bits a number has.
func width(leaf reflect.Value) int {
	if leaf.Kind() == reflect.Bool {
		return 1
	}
	return leaf.Type().Bits()
}

// turn turns one bit of a number.
func turn(leaf reflect.Value, bit int) {
	switch {
	case leaf.Kind() == reflect.Bool:
		leaf.SetBool(!leaf.Bool())
	case leaf.CanInt():
		leaf.SetInt(leaf.Int() ^ 1<<bit)
	default:
		leaf.SetUint(leaf.Uint() ^ 1<<bit)
	}
}

// P19.2: looks as layer 11 has them: all pixels, their number and their order, in images that are right or not; nil and empty lists are one.
func TestEqualOfImages(t *testing.T) {
	of := func(w, h int, pixels ...pixel.Pixel) event.Event {
		return event.Event{Ops: []scene.Op{{Kind: scene.SetLook, Look: node.Look{Kind: node.Image, Image: image.Image{W: w, H: h, Pixels: pixels}}}}}
	}
	none := []pixel.Pixel{}
	for k, c := range []struct {
		a, b event.Event
		same bool
	}{
		{of(2, 1, 1, 2), of(2, 1, 1, 2), true}, {of(2, 1, 1, 2), of(2, 1, 2, 1), false}, {of(2, 1, 1, 2), of(1, 2, 1, 2), false}, {of(2, 1, 1, 2), of(2, 1, 1), false}, {of(2, 1, 1, 2), of(2, 1, 1, 2, 0), false}, {of(2, 1, 1, 2), of(2, 1), false},
		{of(0, 0), of(0, 0, none...), true}, {of(1, 1), of(1, 1, none...), true}, {of(1, 0), of(0, 1), false}, {of(0, 0), of(0, 0, 0), false}, {of(1, 1, 0x100), of(1, 1, 0x100), true},
	} {
		if asked(t, c.a, c.b) != c.same {
			t.Errorf("%d: not %v", k, c.same)
		}
	}
	great := event.Of(scene.Op{Kind: scene.SetLook, Look: node.ImageOf(noise.Image(noise.Numbers(5), 256, 256))})
	for _, place := range []int{0, 1, 255, 256, 32768, 65535} {
		c := arrivals.Copy(great)
		if !asked(t, great, c) {
			t.Errorf("the same isn't Equal")
		}
		c.Ops[0].Look.Image.Pixels[place] ^= 1
		if asked(t, great, c) {
			t.Errorf("a pixel turned at %d", place)
		}
	}
}

// P19.2: each two of lists of up to three ops, of three that differ little.
func TestEqualOfLists(t *testing.T) {
	ops := []scene.Op{{Kind: scene.SetHidden, Id: 1}, {Kind: scene.SetHidden, Id: 1, On: true}, {}}
	lists, longest := [][]scene.Op{nil, {}}, [][]scene.Op{nil}
	for range 3 {
		var longer [][]scene.Op
		for _, l := range longest {
			for _, o := range ops {
				longer = append(longer, append(slices.Clone(l), o))
			}
		}
		lists, longest = append(lists, longer...), longer
	}
	equal := 0
	for _, a := range lists {
		for _, b := range lists {
			if asked(t, event.Event{Ops: a}, event.Event{Ops: slices.Clone(b)}) {
				equal++
			}
		}
	}
	// The two without ops are the same, too.
	if equal != len(lists)+2 || len(lists) != 2+3+9+27 {
		t.Errorf("%d of %d lists", equal, len(lists))
	}
}

// P19.2: each two of events without a pattern, each of them twice, and their plain forms.
func TestEqualOfPairs(t *testing.T) {
	next := noise.Numbers(6)
	var l []event.Event
	for range 60 {
		e := arrivals.Any(next)
		l = append(l, e, arrivals.Copy(e), e.Plain())
	}
	equal := 0
	for _, a := range l {
		for _, b := range l {
			if asked(t, a, b) {
				equal++
			}
		}
	}
	if equal < len(l)/3*5 || equal > len(l)*10 {
		t.Errorf("%d of %d are the same", equal, len(l))
	}
}

// The rule of memory: what Equal and EqualOps are asked of stays as it was.
func TestEqualMemory(t *testing.T) {
	a, b := arrivals.Full(event.Change), arrivals.Full(event.Change)
	b.Ops[7].Look.Image.Pixels[1] = 9
	wasA, wasB := arrivals.Copy(a), arrivals.Copy(b)
	event.Equal(a, b)
	event.EqualOps(a.Ops, b.Ops)
	stands(t, a, wasA)
	stands(t, b, wasB)
}
