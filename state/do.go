package state

import (
	"mutoscope/api"
	"mutoscope/coder"
	"mutoscope/crc"
	"mutoscope/event"
	"mutoscope/hit"
	"mutoscope/scene"
)

const greatestKey = 255 // keys are bytes, to be summed

// Answer is what is told of an event.
type Answer struct {
	Code  api.Errno
	At    int
	Frame int
	Sum   uint32
}

// Do does an event, and tells the answer.
func (s *State) Do(e event.Event) Answer {
	e = e.Plain()
	// Also what has an error leaves the state unclean; a Tick alone cleans it.
	s.facts.Clean = false
	switch e.Kind {
	case event.Change:
		return s.change(e.Ops)
	case event.Press:
		return Answer{Code: s.press(e.X, e.Y)}
	case event.Key:
		return Answer{Code: s.key(e.N)}
	case event.Clock:
		return Answer{Code: s.clock(e.N)}
	case event.Draw:
		return s.draw(e.N)
	case event.Tick:
		return s.tick()
	}
	return Answer{Code: api.ErrKind}
}

// Peek tells what Do of a Tick would answer. Nothing is changed.
func (s *State) Peek() Answer {
	c := *s
	// A Tick changes the screen and the facts alone, so the scene may be the same one.
	c.screen = s.screen.Copy()
	return c.tick()
}

// Fold does all events, in order, and tells their answers.
func Fold(s *State, l ...event.Event) []Answer {
	out := make([]Answer, len(l))
	for k, e := range l {
		out[k] = s.Do(e)
	}
	return out
}

func (s *State) change(l []scene.Op) Answer {
	at, e := s.scene.Apply(l...)
	if !s.scene.Has(s.facts.Focus) {
		s.focus(0, false)
	}
	return Answer{Code: e, At: at}
}

func (s *State) press(x, y int) api.Errno {
	if !within(s.scene, x, y) {
		return api.ErrRange
	}
	s.facts.X, s.facts.Y = x, y
	s.focus(hit.At(s.scene, x, y))
	return api.OK
}

func (s *State) key(n uint64) api.Errno {
	if n > greatestKey {
		return api.ErrRange
	}
	if !s.facts.Focused {
		return api.ErrNone
	}
	s.facts.Keys = crc.Next(s.facts.Keys, byte(n))
	return api.OK
}

func (s *State) clock(n uint64) api.Errno {
	if n < s.facts.Time {
		return api.ErrClock
	}
	s.facts.Time = n
	return api.OK
}

func (s *State) draw(n uint64) Answer {
	s.facts.Drawn = n
	s.facts.Draws++
	return Answer{}
}

func (s *State) tick() Answer {
	s.facts.Frames++
	s.screen.Show(s.scene)
	s.facts.Sum = frameSum(s.screen.Sum(), s.facts)
	s.facts.Clean = true
	return Answer{Frame: s.facts.Frames, Sum: s.facts.Sum}
}

func (s *State) focus(id int, ok bool) {
	s.facts.Focus, s.facts.Focused = id, ok
}

// frameSum tells the sum of a frame whose image has that sum.
func frameSum(image uint32, f Facts) uint32 {
	var o coder.Out
	o.Raw(byte(image), byte(image>>8), byte(image>>16), byte(image>>24))
	o.Uint(uint64(f.Frames), uint64(f.Focus))
	o.Bool(f.Focused)
	o.Int(f.X, f.Y)
	o.Uint(uint64(f.Keys), f.Time, f.Drawn, uint64(f.Draws))
	return crc.Sum(o.Bytes())
}
