package arrivals_test

import (
	"testing"

	"mutoscope/api"
	"mutoscope/arrivals"
	"mutoscope/event"
	"mutoscope/noise"
	"mutoscope/scene"
	"mutoscope/scenery"
	"mutoscope/state"
)

// The tests of the layers lean on this: one row of numbers makes the same events, and rows of others others; each kind is among them, and most aren't plain.
func TestAny(t *testing.T) {
	kinds, ops, plain, others := map[int]int{}, map[int]int{}, 0, 0
	for seed := range uint64(3000) {
		e, again, other := arrivals.Any(noise.Numbers(seed)), arrivals.Any(noise.Numbers(seed)), arrivals.Any(noise.Numbers(seed+1))
		if !event.Equal(e, again) {
			t.Fatalf("seed %d: %v, %v", seed, e, again)
		}
		if !event.Equal(e, other) {
			others++
		}
		if event.Equal(e, e.Plain()) {
			plain++
		}
		kinds[e.Kind]++
		for _, o := range e.Ops {
			ops[o.Kind]++
		}
	}
	for kind := event.Change; kind <= event.Tick; kind++ {
		if kinds[kind] < 300 {
			t.Errorf("kind %d: %d", kind, kinds[kind])
		}
	}
	for kind := scene.Create; kind <= scene.SetHidden; kind++ {
		if ops[kind] < 300 {
			t.Errorf("op %d: %d", kind, ops[kind])
		}
	}
	if len(kinds) < 100 || len(ops) < 100 || plain < 30 || plain > 600 || others < 2990 {
		t.Errorf("%d kinds, %d of ops, %d plain, %d others", len(kinds), len(ops), plain, others)
	}
}

// Most events are done on a state, some are refused, of each kind that may be; some aren't plain, and some are of no kind.
func TestOn(t *testing.T) {
	next := noise.Numbers(1)
	z := scenery.Scene(next, 16, 9, 12)
	s, e := state.Of(z, arrivals.Facts(next, z))
	if e != api.OK {
		t.Fatalf("Of: %d", e)
	}
	done, refused, plain := map[int]int{}, map[int]int{}, 0
	for range 5000 {
		e := arrivals.On(next, s.Scene(), s.Facts().Time)
		if event.Equal(e, e.Plain()) {
			plain++
		}
		if s.Do(e).Code == api.OK {
			done[e.Kind]++
		} else {
			refused[e.Kind]++
		}
	}
	for kind := event.Change; kind <= event.Tick; kind++ {
		if done[kind] < 100 {
			t.Errorf("kind %d: %d done", kind, done[kind])
		}
	}
	for kind := event.Change; kind <= event.Clock; kind++ {
		if refused[kind] < 30 {
			t.Errorf("kind %d: %d refused", kind, refused[kind])
		}
	}
	if len(refused) < 10 || plain < 3000 || plain > 4800 {
		t.Errorf("%d kinds refused, %d plain", len(refused), plain)
	}
}

// Facts are such as a state may have: with a focus or not, Clean or not, and of numbers of any length.
func TestFacts(t *testing.T) {
	focused, clean, short, long := 0, 0, 0, 0
	for seed := range uint64(300) {
		next := noise.Numbers(seed)
		z := scenery.Scene(next, 16, 9, 12)
		f := arrivals.Facts(next, z)
		if s, e := state.Of(z, f); e != api.OK || s.Facts() != f {
			t.Fatalf("Of %v: %d", f, e)
		}
		if f.Focused {
			focused++
		}
		if f.Clean {
			clean++
		}
		if f.Frames < 128 {
			short++
		}
		if f.Frames > 1<<40 {
			long++
		}
	}
	if focused < 200 || focused == 300 || min(clean, 300-clean) < 100 || min(short, long) < 20 {
		t.Errorf("%d focused, %d clean, %d short, %d long", focused, clean, short, long)
	}
}

// A copy is the same, and goes its own way.
func TestCopy(t *testing.T) {
	e := arrivals.Full(event.Change)
	c := arrivals.Copy(e)
	if !event.Equal(e, c) || !event.Equal(e, arrivals.Full(event.Change)) {
		t.Fatalf("%v, %v", e, c)
	}
	c.Ops[3].Look.Image.Pixels[1]++
	c.Ops[2].Id++
	if !event.Equal(e, arrivals.Full(event.Change)) || event.Equal(e, c) {
		t.Errorf("%v, %v", e, c)
	}
}
