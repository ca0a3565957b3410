package state_test

import (
	"math"
	"reflect"
	"slices"
	"testing"

	"mutoscope/affine"
	"mutoscope/api"
	"mutoscope/arrivals"
	"mutoscope/event"
	"mutoscope/image"
	"mutoscope/node"
	"mutoscope/noise"
	"mutoscope/raster"
	"mutoscope/scene"
	"mutoscope/scenery"
	"mutoscope/state"
)

// The calls and types that the chapter lists, by their signatures.
var (
	_ func(w, h, nodes int) (*state.State, api.Errno)               = state.New
	_ func(s *scene.Scene, f state.Facts) (*state.State, api.Errno) = state.Of
	_ func(s *state.State, e event.Event) state.Answer              = (*state.State).Do
	_ func(s *state.State) state.Answer                             = (*state.State).Peek
	_ func(s *state.State) state.Facts                              = (*state.State).Facts
	_ func(s *state.State) *scene.Scene                             = (*state.State).Scene
	_ func(s *state.State) image.Image                              = (*state.State).Image
	_ func(s *state.State) *state.State                             = (*state.State).Copy
	_ func(a, b *state.State) bool                                  = state.Equal
	_ func(s *state.State, l ...event.Event) []state.Answer         = state.Fold
	_ struct {
		Focus          int
		Focused, Clean bool
		X, Y           int
		Keys, Sum      uint32
		Time, Drawn    uint64
		Draws, Frames  int
	} = state.Facts{}
	_ struct {
		Code  api.Errno
		At    int
		Frame int
		Sum   uint32
	} = state.Answer{}
)

// P20.1: New of numbers at their bounds, and past them.
func TestNew(t *testing.T) {
	sides := []int{1, 2, 4096, 0, 4097, -1, 1 << 32, 1<<32 + 1, math.MaxInt, math.MinInt}
	nodes := []int{1, 65535, 65536, 0, 65537, -1, 1<<32 + 1, math.MaxInt, math.MinInt}
	for j, w := range sides {
		for k, h := range sides {
			for l, n := range nodes {
				s, e := state.New(w, h, n)
				if j > 2 || k > 2 || l > 2 {
					if s != nil || e != api.ErrRange {
						t.Errorf("New(%d, %d, %d): %d", w, h, n, e)
					}
					continue
				}
				m, z := s.Image(), s.Scene()
				if x, y, most := z.Size(); e != api.OK || x != w || y != h || most != n || z.Len() != 1 || s.Facts() != (state.Facts{Clean: true}) {
					t.Errorf("New(%d, %d, %d): %d, %v", w, h, n, e, s.Facts())
				}
				if m.W != w || m.H != h || len(m.Pixels) != w*h || slices.Max(m.Pixels) != 0 {
					t.Errorf("New(%d, %d, %d): an image of %d by %d", w, h, n, m.W, m.H)
				}
			}
		}
	}
	made(t, 5, 3, 2)
}

// P20.1: Of by hand: what facts a state of 5 by 3 with the nodes 0, 1 and 7 may have, and what not.
func TestOfByHand(t *testing.T) {
	z := scenery.Of(5, 3, node.Plain())
	z.Apply(scene.Op{Kind: scene.Create, Id: 7, Parent: 1})
	for k, c := range []struct {
		f  state.Facts
		ok bool
	}{
		{state.Facts{}, true}, {state.Facts{Clean: true}, true}, {state.Facts{X: 4, Y: 2}, true}, {state.Facts{X: 5}, false}, {state.Facts{Y: 3}, false}, {state.Facts{X: 2, Y: 4}, false}, {state.Facts{X: -1}, false}, {state.Facts{Y: -1}, false},
		{state.Facts{X: 1 << 32}, false}, {state.Facts{Y: 1 << 32}, false}, {state.Facts{X: math.MaxInt}, false}, {state.Facts{Y: math.MinInt}, false}, {state.Facts{X: math.MinInt, Y: math.MaxInt}, false},
		{state.Facts{Draws: 1}, true}, {state.Facts{Draws: math.MaxInt}, true}, {state.Facts{Draws: -1}, false}, {state.Facts{Draws: math.MinInt}, false}, {state.Facts{Frames: math.MaxInt}, true}, {state.Facts{Frames: -1}, false}, {state.Facts{Frames: math.MinInt}, false}, {state.Facts{Draws: -1, Frames: 1}, false},
		{state.Facts{Focused: true}, true}, {state.Facts{Focus: 1, Focused: true}, true}, {state.Facts{Focus: 7, Focused: true}, true}, {state.Facts{Focus: 2, Focused: true}, false}, {state.Facts{Focus: -1, Focused: true}, false}, {state.Facts{Focus: 1<<32 + 1, Focused: true}, false}, {state.Facts{Focus: math.MinInt, Focused: true}, false},
		{state.Facts{Focus: 1}, false}, {state.Facts{Focus: 7}, false}, {state.Facts{Focus: 9}, false}, {state.Facts{Focus: -1}, false},
		{state.Facts{Keys: math.MaxUint32, Sum: math.MaxUint32, Time: math.MaxUint64, Drawn: math.MaxUint64}, true}, {state.Facts{Sum: 1, Clean: true}, true}, {state.Facts{Drawn: 9}, true},
		{state.Facts{Focus: 7, Focused: true, Clean: true, X: 4, Y: 2, Keys: 1, Sum: 2, Time: 3, Drawn: 4, Draws: 5, Frames: 6}, true}, {state.Facts{Focus: 7, Focused: true, Clean: true, X: 4, Y: 3, Keys: 1, Sum: 2, Time: 3, Drawn: 4, Draws: 5, Frames: 6}, false},
	} {
		s, e := state.Of(z, c.f)
		if !c.ok {
			if s != nil || e != api.ErrRange {
				t.Errorf("%d: %d", k, e)
			}
			continue
		}
		if s == nil || e != api.OK {
			t.Fatalf("%d: %d", k, e)
		}
		stands(t, s, of(z, c.f))
	}
}

// P20.1: Of shows the scene, if the facts are Clean, and nothing else: no pixel, whatever their Frames are.
func TestOfShows(t *testing.T) {
	z := scenery.Of(3, 1, scenery.Filled(affine.Shift(api.One, 0), 1, 1))
	for _, frames := range []int{0, 9} {
		clean, _ := state.Of(z, state.Facts{Clean: true, Frames: frames})
		other, _ := state.Of(z, state.Facts{Frames: frames})
		if a, b := clean.Image(), other.Image(); a.At(1, 0) != 0xff || a.At(0, 0) != 0 || a.At(2, 0) != 0 || b.W != 3 || b.H != 1 || slices.Max(b.Pixels) != 0 {
			t.Errorf("%d frames: %v, %v", frames, a, b)
		}
	}
}

// P20.1, P20.2: Of scenes and facts without a pattern; so a state is the same again, made of what it tells, if it is Clean; and what is done to either goes its own way.
func TestOf(t *testing.T) {
	for seed := range uint64(150) {
		next := noise.Numbers(seed)
		w, h := 1+below(next, 12), 1+below(next, 12)
		z := scenery.Scene(next, w, h, 1+below(next, 14))
		was, f := z.Copy(), arrivals.Facts(next, z)
		s, e := state.Of(z, f)
		if e != api.OK {
			t.Fatalf("Of %v: %d", f, e)
		}
		p := of(z, f)
		stands(t, s, p)
		for range 6 {
			done(t, s, p, drawn(next, p))
		}
		if !scene.Equal(z, was) {
			t.Fatal("the scene that was handed in isn't what it was")
		}
		again, e := state.Of(s.Scene(), s.Facts())
		if e != api.OK || !state.Equal(s, again) || !state.Equal(again, s) {
			t.Fatalf("again: %d", e)
		}
		stands(t, again, of(p.scene, p.facts))
		z.Apply(scene.Op{Kind: scene.SetLook, Look: node.FillOf(w, h, 0x10203040)})
		z.Apply(scene.Op{Kind: scene.Delete, Id: f.Focus})
		stands(t, s, p)
	}
}

// P20.2: Equal of facts that differ in one bit of one number, each of them.
func TestEqualOfFacts(t *testing.T) {
	z := scenery.Of(64, 64, node.Plain())
	f := state.Facts{Focus: 1, Focused: true, Clean: true, X: 32, Y: 16, Keys: 5, Sum: 6, Time: 7, Drawn: 8, Draws: 9, Frames: 10}
	s, _ := state.Of(z, f)
	unlike := 0
	eachBit(f, func(g state.Facts) {
		other, e := state.Of(z, g)
		if e != api.OK {
			return
		}
		unlike++
		if state.Equal(s, other) || state.Equal(other, s) {
			t.Errorf("%v and %v are Equal", f, g)
		}
	})
	// Of Focus only that of the root may be, of Focused alone none; of counts none below nought. A side has 6 bits.
	if want := 1 + 1 + 2*6 + 2*32 + 2*64 + 2*63; unlike != want {
		t.Errorf("%d others, not %d", unlike, want)
	}
	for _, g := range []state.Facts{f, {}, {Clean: true}, {Focused: true}} {
		for _, h := range []state.Facts{f, {}, {Clean: true}, {Focused: true}} {
			a, _ := state.Of(z, g)
			b, _ := state.Of(z, h)
			if state.Equal(a, b) != (g == h) {
				t.Errorf("%v, %v", g, h)
			}
		}
	}
}

// eachBit tells f all facts that differ from g in one bit.
func eachBit(g state.Facts, f func(other state.Facts)) {
	for k := range reflect.TypeFor[state.Facts]().NumField() {
		other := g
		v := reflect.ValueOf(&other).Elem().Field(k)
		if v.Kind() == reflect.Bool {
			v.SetBool(!v.Bool())
			f(other)
			continue
		}
		for bit := range v.Type().Bits() {
			other = g
			if v.CanInt() {
				v.SetInt(v.Int() ^ 1<<bit)
			} else {
				v.SetUint(v.Uint() ^ 1<<bit)
			}
			f(other)
		}
	}
}

// P20.2: Equal of scenes that differ, in what may be, or is, in them.
func TestEqualOfScenes(t *testing.T) {
	var l []*state.State
	for _, size := range [][3]int{{2, 2, 9}, {3, 2, 9}, {2, 3, 9}, {2, 2, 8}} {
		s, _ := state.New(size[0], size[1], size[2])
		l = append(l, s)
	}
	for _, o := range []scene.Op{{Kind: scene.Create, Id: 1}, {Kind: scene.Create, Id: 2}, {Kind: scene.SetHidden, On: true}, {Kind: scene.SetLook, Look: node.FillOf(1, 1, 0xff)}, {Kind: scene.SetLook, Look: node.ImageOf(noise.Image(noise.Numbers(1), 1, 1))}, {Kind: scene.SetLook, Look: node.ImageOf(noise.Image(noise.Numbers(2), 1, 1))}} {
		s, _ := state.New(2, 2, 9)
		s.Do(event.Of(o))
		l = append(l, s)
	}
	for j, a := range l {
		for k, b := range l {
			if state.Equal(a, b.Copy()) != (j == k) {
				t.Errorf("%d, %d", j, k)
			}
		}
	}
}

// P20.2: Equal holds facts and scenes against each other, and not what is shown.
func TestEqualOfImages(t *testing.T) {
	s, _ := state.New(2, 2, 9)
	state.Fold(s, event.Of(scene.Op{Kind: scene.SetLook, Look: node.FillOf(1, 1, 0xff)}), event.Number(event.Tick, 0), event.Number(event.Key, 0))
	other, _ := state.Of(s.Scene(), s.Facts())
	if !state.Equal(s, other) || image.Equal(s.Image(), other.Image()) || s.Image().At(0, 0) != 0xff {
		t.Errorf("%v, %v", s.Image(), other.Image())
	}
	if s.Do(event.Number(event.Tick, 0)) != other.Do(event.Number(event.Tick, 0)) || !image.Equal(s.Image(), other.Image()) {
		t.Error("a frame later")
	}
}

// P20.2: copies, and copies of these, go their own ways.
func TestCopies(t *testing.T) {
	for seed := range uint64(60) {
		next := noise.Numbers(300 + seed)
		s, p := made(t, 9, 7, 12)
		other, q := s.Copy(), p.copied()
		for range 60 {
			switch below(next, 6) {
			case 0:
				other, q = s.Copy(), p.copied()
				if other == s || !state.Equal(s, other) {
					t.Fatal("Copy")
				}
			case 1:
				s, p, other, q = other, q, s, p
			case 2:
				done(t, other, q, drawn(next, q))
			default:
				done(t, s, p, drawn(next, p))
			}
			stands(t, s, p)
			stands(t, other, q)
			if same := p.facts == q.facts && scene.Equal(p.scene, q.scene); state.Equal(s, other) != same {
				t.Fatalf("Equal isn't %v", same)
			}
		}
	}
}

// The rule of memory: what is handed in and what is told isn't kept, nor what two calls tell shared.
func TestMemory(t *testing.T) {
	next := noise.Numbers(4)
	s, p := made(t, 6, 5, 9)
	m := noise.Image(next, 6, 5)
	l := append(make([]scene.Op, 0, 9), scene.Op{Kind: scene.SetLook, Look: node.Look{Kind: node.Image, Image: m}})
	e := event.Event{Kind: event.Change, Ops: l}
	done(t, s, p, e)
	done(t, s, p, event.Number(event.Tick, 0))
	m.Pixels[0] ^= 0xff
	l[0].Look.Kind = 9
	a, b := s.Image(), s.Image()
	spare := a.Pixels[:cap(a.Pixels)]
	for k := range spare {
		spare[k] ^= 0xffffffff
	}
	if !image.Equal(b, p.image) {
		t.Error("two answers share memory")
	}
	z := s.Scene()
	z.Apply(scene.Op{Kind: scene.SetLook, Look: node.FillOf(1, 1, 1)}, scene.Op{Kind: scene.Create, Id: 1})
	n, _ := s.Scene().Node(0)
	n.Look.Image.Pixels[3] ^= 1
	stands(t, s, p)
	events := []event.Event{event.At(1, 1), event.Number(event.Tick, 0), event.Of(scene.Op{Kind: scene.SetLook, Look: node.ImageOf(noise.Image(next, 2, 2))})}
	was := slices.Clone(events)
	answers := state.Fold(s, events[:2]...)
	if !event.Equal(events[2], was[2]) || len(answers) != 2 {
		t.Error("Fold")
	}
	p.do(was[0])
	p.do(was[1])
	events[0].X, events[1].Kind = 9, 9
	stands(t, s, p)
	if !image.Equal(b, raster.Pix(s.Scene())) {
		t.Error("what was told doesn't stay")
	}
}
