package state_test

import (
	"slices"
	"testing"

	"mutoscope/api"
	"mutoscope/event"
	"mutoscope/flat"
	"mutoscope/image"
	"mutoscope/raster"
	"mutoscope/scene"
	"mutoscope/scenery"
	"mutoscope/state"
)

// plain is a state by the chapter's words: of each frame the picture is made anew, and its bytes are written one by one.
type plain struct {
	scene *scene.Scene
	image image.Image
	facts state.Facts
}

func (p *plain) copied() *plain {
	return &plain{p.scene.Copy(), p.image.Copy(), p.facts}
}

func (p *plain) do(e event.Event) state.Answer {
	if e = e.Plain(); e.Kind == 6 {
		return p.tick()
	}
	p.facts.Clean = false
	switch e.Kind {
	case 1:
		at, code := p.scene.Apply(e.Ops...)
		if _, ok := p.scene.Node(p.facts.Focus); !ok {
			p.facts.Focus, p.facts.Focused = 0, false
		}
		return state.Answer{Code: code, At: at}
	case 2:
		if e.X < 0 || e.Y < 0 || e.X >= p.image.W || e.Y >= p.image.H {
			return state.Answer{Code: 11}
		}
		p.facts.X, p.facts.Y, p.facts.Focus, p.facts.Focused = e.X, e.Y, 0, false
		for _, i := range flat.List(p.scene) {
			if i.Covers(e.X, e.Y) {
				p.facts.Focus, p.facts.Focused = i.Id, true
			}
		}
		return state.Answer{}
	case 3:
		if e.N >= 256 {
			return state.Answer{Code: 11}
		}
		if !p.facts.Focused {
			return state.Answer{Code: 14}
		}
		p.facts.Keys = summed(p.facts.Keys, byte(e.N))
		return state.Answer{}
	case 4:
		if e.N < p.facts.Time {
			return state.Answer{Code: 37}
		}
		p.facts.Time = e.N
		return state.Answer{}
	case 5:
		p.facts.Drawn, p.facts.Draws = e.N, p.facts.Draws+1
		return state.Answer{}
	}
	return state.Answer{Code: 38}
}

func (p *plain) tick() state.Answer {
	f := &p.facts
	f.Frames, f.Clean, p.image = f.Frames+1, true, raster.Pix(p.scene)
	l := p.imageBytes()
	sum := summed(0, l...)
	l = []byte{byte(sum), byte(sum >> 8), byte(sum >> 16), byte(sum >> 24)}
	l = append(l, number(uint64(f.Frames))...)
	l = append(l, number(uint64(f.Focus))...)
	if f.Focused {
		l = append(l, 1)
	} else {
		l = append(l, 0)
	}
	// No pixel's numbers are below nought.
	for _, n := range []uint64{2 * uint64(f.X), 2 * uint64(f.Y), uint64(f.Keys), f.Time, f.Drawn, uint64(f.Draws)} {
		l = append(l, number(n)...)
	}
	f.Sum = summed(0, l...)
	return state.Answer{Frame: f.Frames, Sum: f.Sum}
}

func (p *plain) imageBytes() []byte {
	var l []byte
	for _, n := range append([]uint32{uint32(p.image.W), uint32(p.image.H)}, parts(p.image)...) {
		l = append(l, byte(n), byte(n>>8), byte(n>>16), byte(n>>24))
	}
	return l
}

func parts(m image.Image) []uint32 {
	var l []uint32
	for _, x := range m.Pixels {
		l = append(l, uint32(x))
	}
	return l
}

// number is a number's bytes, the lowest seven bits first.
func number(n uint64) []byte {
	if n < 128 {
		return []byte{byte(n)}
	}
	return append([]byte{byte(n) | 128}, number(n>>7)...)
}

// summed is the sum of bytes behind those that have the sum r.
func summed(r uint32, l ...byte) uint32 {
	r = ^r
	for _, b := range l {
		r ^= uint32(b)
		for range 8 {
			if r%2 == 1 {
				r = r/2 ^ 0xedb88320
			} else {
				r /= 2
			}
		}
	}
	return ^r
}

// made is a new state, and a plain one.
func made(t *testing.T, w, h, nodes int) (*state.State, *plain) {
	t.Helper()
	s, e := state.New(w, h, nodes)
	if s == nil || e != api.OK {
		t.Fatalf("New(%d, %d, %d): %d", w, h, nodes, e)
	}
	z, _ := scene.New(w, h, nodes)
	p := of(z, state.Facts{Clean: true})
	stands(t, s, p)
	return s, p
}

// of is a plain state of a copy of z, that shows it, if f is Clean.
func of(z *scene.Scene, f state.Facts) *plain {
	w, h, _ := z.Size()
	m, _ := image.New(w, h)
	if f.Clean {
		m = raster.Pix(z)
	}
	return &plain{z.Copy(), m, f}
}

// stands holds all that s tells against p; what a Tick would answer, too, by which nothing is changed.
func stands(t *testing.T, s *state.State, p *plain) {
	t.Helper()
	for range 2 {
		if s.Facts() != p.facts {
			t.Fatalf("Facts: %v, not %v", s.Facts(), p.facts)
		}
		if !scene.Equal(s.Scene(), p.scene) {
			t.Fatal("Scene: it is another one")
		}
		if m := s.Image(); !image.Equal(m, p.image) || m.Check() != api.OK {
			t.Fatalf("Image: %d by %d, %08x, not %08x", m.W, m.H, m.Pixels, p.image.Pixels)
		}
		if a, want := s.Peek(), p.copied().tick(); a != want {
			t.Fatalf("Peek: %v, not %v", a, want)
		}
	}
}

// done is the answer of Do, after all was held against the chapter's words.
func done(t *testing.T, s *state.State, p *plain, e event.Event) state.Answer {
	t.Helper()
	was := copied(e)
	a, want := s.Do(e), p.do(e)
	if a != want {
		t.Fatalf("Do %v: %v, not %v", e, a, want)
	}
	if !event.Equal(e, was) {
		t.Fatalf("%v was %v", e, was)
	}
	stands(t, s, p)
	if p.facts.Clean && !image.Equal(s.Image(), raster.Pix(s.Scene())) {
		t.Fatal("the image isn't the scene's picture")
	}
	return a
}

// copied is e with ops and pixels of its own.
func copied(e event.Event) event.Event {
	e.Ops = slices.Clone(e.Ops)
	for k := range e.Ops {
		m := &e.Ops[k].Look.Image
		m.Pixels = slices.Clone(m.Pixels)
	}
	return e
}

// drawn is an event without a pattern: most are done, some aren't, and some aren't plain.
func drawn(next func() uint64, p *plain) event.Event {
	e := event.Event{Kind: 1 + below(next, 6)}
	switch e.Kind {
	case event.Change:
		for range below(next, 4) {
			e.Ops = append(e.Ops, scenery.Op(next, p.scene))
		}
	case event.Press:
		e.X, e.Y = below(next, p.image.W+2)-1, below(next, p.image.H+2)-1
	case event.Key:
		e.N = next() % 280
	case event.Clock:
		e.N = p.facts.Time + next()%7 - 2
	case event.Draw:
		e.N = next() >> (next() % 64)
	}
	switch below(next, 20) {
	case 0:
		e.Kind = below(next, 20) - 9
	case 1, 2, 3:
		return full(next, e)
	}
	return e
}

// full is e with all set that its Kind, or those of its ops, don't have.
func full(next func() uint64, e event.Event) event.Event {
	plain := e.Plain()
	for range 2 {
		e.Ops = append(e.Ops, scene.Op{Kind: scene.SetHidden, On: true})
	}
	e.X, e.Y, e.N = int(next()), int(next()), next()
	switch plain.Kind {
	case event.Change:
		e.Ops = plain.Ops
		for k := range e.Ops {
			e.Ops[k] = fullOp(e.Ops[k])
		}
	case event.Press:
		e.X, e.Y = plain.X, plain.Y
	case event.Key, event.Clock, event.Draw:
		e.N = plain.N
	}
	return e
}

// fullOp is o with a look and a number that its Kind may not have.
func fullOp(o scene.Op) scene.Op {
	if o.Kind != scene.SetLook {
		o.Look.Kind, o.Look.W = 9, -1
	}
	if o.Kind != scene.SetOpacity {
		o.N = 999
	}
	return o
}

func below(next func() uint64, n int) int {
	return int(next() % uint64(n))
}

// facts is some that a state of z may have, of numbers of any length.
func facts(next func() uint64, z *scene.Scene) state.Facts {
	w, h, _ := z.Size()
	f := state.Facts{
		X: below(next, w), Y: below(next, h), Clean: below(next, 2) == 0, Keys: uint32(next()), Sum: uint32(next()),
		Time: next() >> (next() % 64), Drawn: next() >> (next() % 64), Draws: int(next() >> (2 + next()%60)), Frames: int(next() >> (2 + next()%60)),
	}
	for id := range z.Walk() {
		if !f.Focused && below(next, 3) == 0 {
			f.Focus, f.Focused = id, true
		}
	}
	return f
}
