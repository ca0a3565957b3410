package state_test

import (
	"testing"

	"mutoscope/api"
	"mutoscope/arrivals"
	"mutoscope/event"
	"mutoscope/flat"
	"mutoscope/image"
	"mutoscope/raster"
	"mutoscope/scene"
	"mutoscope/state"
)

// plain is a state by the chapter's words: of each frame the picture is made anew, and its bytes are written one by one.
type plain struct {
	scene *scene.Scene
	image image.Image
	facts state.Facts
}

func (p *plain) copied() *plain {
	return &plain{p.scene.Copy(), p.image.Copy(), p.facts}
}

func (p *plain) do(e event.Event) state.Answer {
	if e = e.Plain(); e.Kind == 6 {
		return p.tick()
	}
	p.facts.Clean = false
	switch e.Kind {
	case 1:
		at, code := p.scene.Apply(e.Ops...)
		if _, ok := p.scene.Node(p.facts.Focus); !ok {
			p.facts.Focus, p.facts.Focused = 0, false
		}
		return state.Answer{Code: code, At: at}
	case 2:
		if e.X < 0 || e.Y < 0 || e.X >= p.image.W || e.Y >= p.image.H {
			return state.Answer{Code: 11}
		}
		p.facts.X, p.facts.Y, p.facts.Focus, p.facts.Focused = e.X, e.Y, 0, false
		for _, i := range flat.List(p.scene) {
			if i.Covers(e.X, e.Y) {
				p.facts.Focus, p.facts.Focused = i.Id, true
			}
		}
		return state.Answer{}
	case 3:
		if e.N >= 256 {
			return state.Answer{Code: 11}
		}
		if !p.facts.Focused {
			return state.Answer{Code: 14}
		}
		p.facts.Keys = summed(p.facts.Keys, byte(e.N))
		return state.Answer{}
	case 4:
		if e.N < p.facts.Time {
			return state.Answer{Code: 37}
		}
		p.facts.Time = e.N
		return state.Answer{}
	case 5:
		p.facts.Drawn, p.facts.Draws = e.N, p.facts.Draws+1
		return state.Answer{}
	}
	return state.Answer{Code: 38}
}

func (p *plain) tick() state.Answer {
	f := &p.facts
	f.Frames, f.Clean, p.image = f.Frames+1, true, raster.Pix(p.scene)
	l := p.imageBytes()
	sum := summed(0, l...)
	l = []byte{byte(sum), byte(sum >> 8), byte(sum >> 16), byte(sum >> 24)}
	l = append(l, number(uint64(f.Frames))...)
	l = append(l, number(uint64(f.Focus))...)
	if f.Focused {
		l = append(l, 1)
	} else {
		l = append(l, 0)
	}
	// No pixel's numbers are below nought.
	for _, n := range []uint64{2 * uint64(f.X), 2 * uint64(f.Y), uint64(f.Keys), f.Time, f.Drawn, uint64(f.Draws)} {
		l = append(l, number(n)...)
	}
	f.Sum = summed(0, l...)
	return state.Answer{Frame: f.Frames, Sum: f.Sum}
}

func (p *plain) imageBytes() []byte {
	var l []byte
	for _, n := range append([]uint32{uint32(p.image.W), uint32(p.image.H)}, parts(p.image)...) {
		l = append(l, byte(n), byte(n>>8), byte(n>>16), byte(n>>24))
	}
	return l
}

func parts(m image.Image) []uint32 {
	var l []uint32
	for _, x := range m.Pixels {
		l = append(l, uint32(x))
	}
	return l
}

// number is a number's bytes, the lowest seven bits first.
func number(n uint64) []byte {
	if n < 128 {
		return []byte{byte(n)}
	}
	return append([]byte{byte(n) | 128}, number(n>>7)...)
}

// summed is the sum of bytes behind those that have the sum r.
func summed(r uint32, l ...byte) uint32 {
	r = ^r
	for _, b := range l {
		r ^= uint32(b)
		for range 8 {
			if r%2 == 1 {
				r = r/2 ^ 0xedb88320
			} else {
				r /= 2
			}
		}
	}
	return ^r
}

// made is a new state, and a plain one.
func made(t *testing.T, w, h, nodes int) (*state.State, *plain) {
	t.Helper()
	s, e := state.New(w, h, nodes)
	if s == nil || e != api.OK {
		t.Fatalf("New(%d, %d, %d): %d", w, h, nodes, e)
	}
	z, _ := scene.New(w, h, nodes)
	p := of(z, state.Facts{Clean: true})
	stands(t, s, p)
	return s, p
}

// of is a plain state of a copy of z, that shows it, if f is Clean.
func of(z *scene.Scene, f state.Facts) *plain {
	w, h, _ := z.Size()
	m, _ := image.New(w, h)
	if f.Clean {
		m = raster.Pix(z)
	}
	return &plain{z.Copy(), m, f}
}

// stands holds all that s tells against p; what a Tick would answer, too, by which nothing is changed.
func stands(t *testing.T, s *state.State, p *plain) {
	t.Helper()
	for range 2 {
		if s.Facts() != p.facts {
			t.Fatalf("Facts: %v, not %v", s.Facts(), p.facts)
		}
		if !scene.Equal(s.Scene(), p.scene) {
			t.Fatal("Scene: it is another one")
		}
		if m := s.Image(); !image.Equal(m, p.image) || m.Check() != api.OK {
			t.Fatalf("Image: %d by %d, %08x, not %08x", m.W, m.H, m.Pixels, p.image.Pixels)
		}
		if a, want := s.Peek(), p.copied().tick(); a != want {
			t.Fatalf("Peek: %v, not %v", a, want)
		}
	}
}

// done is the answer of Do, after all was held against the chapter's words.
func done(t *testing.T, s *state.State, p *plain, e event.Event) state.Answer {
	t.Helper()
	was := arrivals.Copy(e)
	a, want := s.Do(e), p.do(e)
	if a != want {
		t.Fatalf("Do %v: %v, not %v", e, a, want)
	}
	if !event.Equal(e, was) {
		t.Fatalf("%v was %v", e, was)
	}
	stands(t, s, p)
	if p.facts.Clean && !image.Equal(s.Image(), raster.Pix(s.Scene())) {
		t.Fatal("the image isn't the scene's picture")
	}
	return a
}

// drawn is an event without a pattern: most are done, some aren't, and some aren't plain.
func drawn(next func() uint64, p *plain) event.Event {
	return arrivals.On(next, p.scene, p.facts.Time)
}

func below(next func() uint64, n int) int {
	return int(next() % uint64(n))
}
