// Package arrivals holds what comes from outside, for the tests of the layers that
// take it: ops and events, any that there may be, or such as a state mostly does,
// and the facts of states. What a row of numbers makes has no pattern, and is the
// same in each run.
package arrivals

import (
	"slices"

	"mutoscope/event"
	"mutoscope/scene"
	"mutoscope/scenery"
	"mutoscope/state"
)

// Any tells an event of any numbers, often noughts, with up to four such ops;
// mostly its Kind is one of the six, and seldom it is plain.
func Any(next func() uint64) event.Event {
	e := event.Event{Kind: signed(next), X: signed(next), Y: signed(next), N: number(next)}
	for range below(next, 5) {
		e.Ops = append(e.Ops, AnyOp(next))
	}
	if below(next, 8) > 0 {
		e.Kind = 1 + below(next, 6)
	}
	return e
}

// On tells an event that a state of z, whose clock reads time, mostly does. Some
// are refused, and some aren't plain.
func On(next func() uint64, z *scene.Scene, time uint64) event.Event {
	w, h, _ := z.Size()
	e := event.Event{Kind: 1 + below(next, 6)}
	switch e.Kind {
	case event.Change:
		for range below(next, 4) {
			e.Ops = append(e.Ops, scenery.Op(next, z))
		}
	case event.Press:
		e.X, e.Y = below(next, w+2)-1, below(next, h+2)-1
	case event.Key:
		e.N = next() % 280
	case event.Clock:
		e.N = time + next()%7 - 2
	case event.Draw:
		e.N = next() >> (next() % 64)
	}
	switch below(next, 20) {
	case 0:
		e.Kind = below(next, 20) - 9
	case 1, 2, 3:
		return filled(next, e)
	}
	return e
}

// Facts tells some that a state of z may have, of numbers of any length.
func Facts(next func() uint64, z *scene.Scene) state.Facts {
	w, h, _ := z.Size()
	f := state.Facts{
		Clean: below(next, 2) == 0, X: below(next, w), Y: below(next, h), Keys: uint32(next()), Sum: uint32(next()),
		Time: next() >> (next() % 64), Drawn: next() >> (next() % 64), Draws: int(next() >> (2 + next()%60)), Frames: int(next() >> (2 + next()%60)),
	}
	for id := range z.Walk() {
		if !f.Focused && below(next, 3) == 0 {
			f.Focus, f.Focused = id, true
		}
	}
	return f
}

// Full tells an event in which all is set, and no two numbers are the same, with
// an op of each kind, and some of none.
func Full(kind int) event.Event {
	e := event.Event{Kind: kind, X: 201, Y: 202, N: 203}
	for k := -1; k < 11; k++ {
		e.Ops = append(e.Ops, FullOp(k))
	}
	return e
}

// Copy tells e with ops and pixels of its own.
func Copy(e event.Event) event.Event {
	e.Ops = slices.Clone(e.Ops)
	for k := range e.Ops {
		m := &e.Ops[k].Look.Image
		m.Pixels = slices.Clone(m.Pixels)
	}
	return e
}

// filled tells e with all set that its Kind, and those of its ops, don't have.
func filled(next func() uint64, e event.Event) event.Event {
	plain := e.Plain()
	e.Ops = []scene.Op{{Kind: scene.SetHidden, On: true}, {Kind: scene.SetHidden, On: true}}
	e.X, e.Y, e.N = int(next()), int(next()), next()
	switch plain.Kind {
	case event.Change:
		e.Ops = plain.Ops
		for k := range e.Ops {
			e.Ops[k] = filledOp(e.Ops[k])
		}
	case event.Press:
		e.X, e.Y = plain.X, plain.Y
	case event.Key, event.Clock, event.Draw:
		e.N = plain.N
	}
	return e
}
