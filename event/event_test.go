package event_test

import (
	"math"
	"slices"
	"testing"

	"mutoscope/api"
	"mutoscope/arrivals"
	"mutoscope/event"
	"mutoscope/image"
	"mutoscope/node"
	"mutoscope/noise"
	"mutoscope/pixel"
	"mutoscope/scene"
	"mutoscope/scenery"
)

// The calls and types that the chapter lists, by their signatures.
var (
	_ func(l ...scene.Op) event.Event      = event.Of
	_ func(x, y int) event.Event           = event.At
	_ func(kind int, n uint64) event.Event = event.Number
	_ func(e event.Event) event.Event      = event.Event.Plain
	_ func(a, b event.Event) bool          = event.Equal
	_ func(a, b []scene.Op) bool           = event.EqualOps
	_ struct {
		Kind int
		Ops  []scene.Op
		X, Y int
		N    uint64
	} = event.Event{}
)

// P19.1: the chapter's example.
func TestExample(t *testing.T) {
	stands(t, event.Number(event.Tick, 7).Plain(), event.Event{Kind: 6})
}

// The kinds have the chapter's numbers: they stand in logs.
func TestKinds(t *testing.T) {
	if l := []int{event.Change, event.Press, event.Key, event.Clock, event.Draw, event.Tick}; !slices.Equal(l, []int{1, 2, 3, 4, 5, 6}) {
		t.Errorf("%v", l)
	}
}

// P19.1: Of tells a Change of just these ops, in their order, any number of them, also such as aren't plain, or right.
func TestOf(t *testing.T) {
	next := noise.Numbers(1)
	for _, n := range []int{0, 1, 2, 3, 7, 100, api.MaxOps - 1, api.MaxOps, api.MaxOps + 1, 3000} {
		var l, was []scene.Op
		for k := range n {
			o := arrivals.AnyOp(next)
			o.Place = k
			l, was = append(l, o), append(was, o)
		}
		stands(t, event.Of(l...), event.Event{Kind: 1, Ops: was})
		if !same(l, was) {
			t.Fatalf("%d ops: what was handed in is changed", n)
		}
	}
	stands(t, event.Of(), event.Event{Kind: 1})
	stands(t, event.Of(scene.Op{}, scene.Op{Kind: 2, Id: 7}), event.Event{Kind: 1, Ops: []scene.Op{{}, {Kind: 2, Id: 7}}})
	for _, look := range arrivals.Looks() {
		for kind := -1; kind < 10; kind++ {
			o := arrivals.FullOp(kind)
			o.Look = look
			stands(t, event.Of(o), event.Event{Kind: 1, Ops: []scene.Op{o}})
		}
	}
}

// P19.1: At tells a Press at any pixel, and Number an event of any kind, also one that has no number, with any.
func TestAtAndNumber(t *testing.T) {
	for _, a := range arrivals.Far() {
		for _, b := range arrivals.Far() {
			stands(t, event.At(a, b), event.Event{Kind: 2, X: a, Y: b})
			stands(t, event.Number(a, uint64(b)), event.Event{Kind: a, N: uint64(b)})
		}
	}
	stands(t, event.Number(event.Draw, math.MaxUint64), event.Event{Kind: 5, N: math.MaxUint64})
}

// P19.1: Plain by hand: what each kind leaves of an event in which everything is set.
func TestPlainByHand(t *testing.T) {
	for kind, want := range map[int]event.Event{0: {}, 2: {X: 201, Y: 202}, 3: {N: 203}, 4: {N: 203}, 5: {N: 203}, 6: {}, 7: {}, -1: {}, 257: {}, 1<<32 + 2: {}, math.MinInt: {}, math.MaxInt: {}} {
		want.Kind = kind
		stands(t, arrivals.Full(kind).Plain(), want)
	}
	full := arrivals.FullOp(0)
	for kind, want := range map[int]scene.Op{
		1: {Id: 101, Parent: 102, Place: 103}, 2: {Id: 101}, 3: {Id: 101, Parent: 102, Place: 103}, 4: {Id: 101, Map: full.Map}, 5: {Id: 101, On: true, Clip: full.Clip},
		6: {Id: 101, N: 114}, 7: {Id: 101, Look: full.Look}, 8: {Id: 101, On: true}, 0: {}, 9: {}, -1: {}, 257: {}, 1<<32 + 7: {}, math.MinInt: {}, math.MaxInt: {},
	} {
		want.Kind = kind
		stands(t, event.Of(arrivals.FullOp(kind)).Plain(), event.Event{Kind: 1, Ops: []scene.Op{want}})
	}
}

// P19.1: Plain of events of all kinds, in which everything is set, or any part of it.
func TestPlain(t *testing.T) {
	l := []event.Event{{}}
	for _, kind := range append(arrivals.Far(), 3, 4, 5, 6) {
		l = append(l, arrivals.Full(kind), event.Event{Kind: kind})
	}
	next := noise.Numbers(3)
	for range 4000 {
		l = append(l, arrivals.Any(next))
	}
	changed, kept := 0, 0
	for _, e := range l {
		was := arrivals.Copy(e)
		p := e.Plain()
		stands(t, p, plainEvent(e))
		stands(t, p.Plain(), p)
		stands(t, e, was)
		if same(p, e) {
			kept++
		} else {
			changed++
		}
	}
	if changed < 2000 || kept < 50 {
		t.Errorf("%d changed, %d kept", changed, kept)
	}
}

// P19.1: a look that is set stays whole, with what its own kind hasn't, too; of ops of other kinds it goes.
func TestPlainLooks(t *testing.T) {
	for _, look := range arrivals.Looks() {
		for kind := -1; kind < 10; kind++ {
			o := scene.Op{Kind: kind, Look: look}
			want := scene.Op{Kind: kind}
			if kind == scene.SetLook {
				want = o
			}
			stands(t, event.Of(o).Plain(), event.Event{Kind: 1, Ops: []scene.Op{want}})
		}
	}
}

// P19.1: Plain leaves as many ops as there are, in their order, those too that do nothing.
func TestPlainOfManyOps(t *testing.T) {
	e, want := event.Event{Kind: 1, X: 5}, event.Event{Kind: 1}
	for k := range 3 * api.MaxOps {
		o := arrivals.FullOp(k % 12)
		o.Id, o.Parent = k, -k
		e.Ops, want.Ops = append(e.Ops, o), append(want.Ops, plainOp(o))
	}
	stands(t, e.Plain(), want)
}

// P19.1: an op's plain form does to a scene what the op does, and is refused where that is: the one names just what the other uses.
func TestPlainApplied(t *testing.T) {
	done, refused := 0, 0
	for seed := range uint64(30) {
		next := noise.Numbers(seed)
		s := scenery.Scene(next, 16, 9, 12)
		for range 60 {
			p, o := scenery.Op(next, s), arrivals.AnyOp(next)
			o.Kind = p.Kind
			for _, o := range []scene.Op{o, over(o, p)} {
				a, b := s.Copy(), s.Copy()
				at, e := a.Apply(o)
				if plainAt, plainE := b.Apply(event.Of(o).Plain().Ops...); plainAt != at || plainE != e || !scene.Equal(a, b) {
					t.Fatalf("seed %d: %v: %d, %d, not %d, %d", seed, o, plainAt, plainE, at, e)
				}
				if e == api.OK {
					done++
				} else {
					refused++
				}
				s = a
			}
		}
	}
	if done < 800 || refused < 800 {
		t.Errorf("%d done, %d refused", done, refused)
	}
}

// over is o with all that p's kind names from p.
func over(o, p scene.Op) scene.Op {
	o.Id = p.Id
	switch p.Kind {
	case scene.Create, scene.Move:
		o.Parent, o.Place = p.Parent, p.Place
	case scene.SetMap:
		o.Map = p.Map
	case scene.SetClip:
		o.On, o.Clip = p.On, p.Clip
	case scene.SetOpacity:
		o.N = p.N
	case scene.SetLook:
		o.Look = p.Look
	case scene.SetHidden:
		o.On = p.On
	}
	return o
}

// The rule of memory: what Of is handed isn't kept, and what it told shares none with it, nor with another answer, spare room neither.
func TestOfMemory(t *testing.T) {
	memory(t, func(l []scene.Op) event.Event { return event.Of(l...) })
	// So it is of a look that an op's kind doesn't name.
	for kind := -1; kind < 10; kind++ {
		o := arrivals.FullOp(kind)
		e := event.Of(o)
		spoil(o.Look.Image.Pixels)
		stands(t, e, event.Event{Kind: 1, Ops: []scene.Op{arrivals.FullOp(kind)}})
	}
}

// The rule of memory: so it is of what Plain is asked of, and tells.
func TestPlainMemory(t *testing.T) {
	memory(t, func(l []scene.Op) event.Event { return event.Event{Kind: event.Change, Ops: l}.Plain() })
}

// memory fails if what f tells of ops shares anything with these, with what it tells once more, or within itself.
func memory(t *testing.T, f func(l []scene.Op) event.Event) {
	t.Helper()
	pixels := noise.Image(noise.Numbers(4), 4, 3).Pixels
	// Two ops have one image's pixels, and a third one its last lines; behind the ops, and the pixels, is spare room.
	look := func(w, h int, p []pixel.Pixel) scene.Op {
		return scene.Op{Kind: scene.SetLook, Look: node.Look{Kind: node.Image, Image: image.Image{W: w, H: h, Pixels: p}}}
	}
	made := func(pixels []pixel.Pixel) []scene.Op {
		return []scene.Op{look(4, 2, pixels[:8]), look(2, 4, pixels[:8]), look(4, 1, pixels[4:8]), {Kind: scene.Delete, Id: 3}, look(0, 0, pixels[:0]), {Id: 4}, {Id: 5}}
	}
	want := event.Event{Kind: event.Change, Ops: made(slices.Clone(pixels))[:5]}
	l, was := made(pixels), slices.Clone(pixels)
	a, b := f(l[:5]), f(l[:5])
	stands(t, a, want)
	if !slices.Equal(pixels, was) || l[5].Id != 4 || l[6].Id != 5 {
		t.Fatal("what was handed in is changed")
	}
	for k := range a.Ops {
		spoil(a.Ops[k].Look.Image.Pixels)
	}
	turned := slices.Clone(was)
	spoil(turned)
	for k, from := range []int{0, 0, 4} {
		if got := a.Ops[k].Look.Image.Pixels; !slices.Equal(got, turned[from:from+len(got)]) {
			t.Fatalf("op %d shares its pixels with another one", k)
		}
	}
	clear(a.Ops[:cap(a.Ops)])
	if !slices.Equal(pixels, was) || l[0].Kind != scene.SetLook || l[5].Id != 4 || l[6].Id != 5 {
		t.Fatal("what was told is shared with what was handed in")
	}
	spoil(pixels)
	clear(l)
	stands(t, b, event.Event{Kind: event.Change, Ops: made(was)[:5]})
}

// spoil turns all bits of l, and of its spare room.
func spoil(l []pixel.Pixel) {
	l = l[:cap(l)]
	for k := range l {
		l[k] ^= 0xffffffff
	}
}
