package state_test

import (
	"math"
	"slices"
	"testing"

	"mutoscope/affine"
	"mutoscope/api"
	"mutoscope/arrivals"
	"mutoscope/event"
	"mutoscope/image"
	"mutoscope/node"
	"mutoscope/noise"
	"mutoscope/pixel"
	"mutoscope/raster"
	"mutoscope/scene"
	"mutoscope/scenery"
	"mutoscope/state"
)

func tick() event.Event { return event.Number(event.Tick, 0) }

func key(n uint64) event.Event { return event.Number(event.Key, n) }

// fill is a node of w by h pixels of that colour, at whole pixels.
func fill(x, y, w, h int, c pixel.Pixel) node.Node {
	return scenery.With(func(n *node.Node) {
		n.Map, n.Look = affine.Shift(int64(x)*api.One, int64(y)*api.One), node.FillOf(w, h, c)
	})
}

// with is a state of a scene of w by h with these nodes, from 1 on.
func with(t *testing.T, w, h int, l ...node.Node) (*state.State, *plain) {
	t.Helper()
	z := scenery.Of(w, h, l...)
	s, e := state.Of(z, state.Facts{})
	if e != api.OK {
		t.Fatalf("Of: %d", e)
	}
	return s, of(z, state.Facts{})
}

// asked fails if the answer isn't want.
func asked(t *testing.T, s *state.State, p *plain, e event.Event, want state.Answer) {
	t.Helper()
	if a := done(t, s, p, e); a != want {
		t.Fatalf("%v: %v, not %v", e, a, want)
	}
}

// P20.2: the chapter's examples.
func TestExample(t *testing.T) {
	s, _ := state.New(3, 2, 1)
	if a := s.Do(key(1)); a != (state.Answer{Code: api.ErrNone}) {
		t.Errorf("Key: %v", a)
	}
	if a := s.Do(tick()); a.Frame != 1 || a.Code != api.OK || a.At != 0 {
		t.Errorf("Tick: %v", a)
	}
}

// P20.2: sums of frames, reckoned elsewhere: of a new state, and of facts of many bytes.
func TestSum(t *testing.T) {
	s, p := made(t, 1, 1, 1)
	asked(t, s, p, tick(), state.Answer{Frame: 1, Sum: 0xc4e5095c})
	z := scenery.Of(200, 1)
	z.Apply(scenery.Put(300, 0, 0, fill(0, 0, 2, 1, 0xff))...)
	f := state.Facts{Focus: 300, Focused: true, X: 150, Keys: 0xdeadbeef, Time: 1 << 63, Drawn: math.MaxUint64, Draws: 16384, Frames: 128}
	s, _ = state.Of(z, f)
	asked(t, s, of(z, f), tick(), state.Answer{Frame: 129, Sum: 0x72c8dedb})
	f.Frames, f.Sum, f.Clean = 129, 0x72c8dedb, true
	if s.Facts() != f {
		t.Errorf("%v, not %v", s.Facts(), f)
	}
}

// P20.2: each fact but Sum and Clean is in the next frame's sum, and each pixel; these two, and what isn't seen of the scene, aren't.
func TestSumOfEachFact(t *testing.T) {
	z := scenery.Of(64, 64, fill(0, 0, 1, 1, 0xff), fill(0, 0, 1, 1, 0xff))
	f := state.Facts{Focus: 1, Focused: true, X: 32, Y: 16, Keys: 5, Sum: 6, Time: 7, Drawn: 8, Draws: 9, Frames: 10}
	sum := func(z *scene.Scene, f state.Facts) uint32 {
		s, e := state.Of(z, f)
		if e != api.OK {
			t.Fatalf("Of: %d", e)
		}
		p := s.Peek()
		if a := s.Do(tick()); a != p || a.Sum != s.Facts().Sum {
			t.Fatalf("Do: %v, Peek: %v", a, p)
		}
		return p.Sum
	}
	was, all := sum(z, f), map[uint32]bool{}
	all[was] = true
	others := 0
	eachBit(f, func(g state.Facts) {
		if _, e := state.Of(z, g); e != api.OK {
			return
		}
		if n := sum(z, g); g.Sum != f.Sum || g.Clean != f.Clean {
			if n != was {
				t.Errorf("%v: %08x, not %08x", g, n, was)
			}
		} else {
			all[n] = true
			others++
		}
	})
	for _, g := range []state.Facts{{Focus: 2, Focused: true}, {}} {
		h := f
		h.Focus, h.Focused = g.Focus, g.Focused
		all[sum(z, h)] = true
		others++
	}
	if len(all) != others+1 || others < 300 {
		t.Errorf("%d sums of %d facts", len(all), others)
	}
	below := scene.Op{Kind: scene.SetOpacity, Id: 1, N: 7}
	if at, e := z.Apply(below); at != 1 || e != api.OK || sum(z, f) != was {
		t.Error("what isn't seen")
	}
	if z.Apply(scene.Op{Kind: scene.SetLook, Id: 2, Look: node.FillOf(1, 1, 0x100)}); sum(z, f) != was {
		t.Error("what is refused")
	}
	if z.Apply(scene.Op{Kind: scene.SetLook, Id: 2, Look: node.FillOf(1, 1, 0x010000ff)}); sum(z, f) == was {
		t.Error("a pixel")
	}
}

// P20.2: a Change is the scene's Apply: its error and its place; what is refused changes nothing but Clean.
func TestChange(t *testing.T) {
	s, p := made(t, 4, 3, 3)
	create := func(id, parent int) scene.Op { return scene.Op{Kind: scene.Create, Id: id, Parent: parent} }
	most, tooMany := make([]scene.Op, api.MaxOps), make([]scene.Op, api.MaxOps+1)
	for k := range tooMany {
		tooMany[k] = scene.Op{Kind: scene.SetHidden}
	}
	copy(most, tooMany)
	far := scene.Op{Kind: scene.SetMap, Id: 1, Map: affine.Shift(api.MaxFix, 0)}
	farRoot := far
	farRoot.Id = 0
	for k, c := range []struct {
		l    []scene.Op
		want state.Answer
	}{
		{nil, state.Answer{}}, {[]scene.Op{create(1, 0)}, state.Answer{At: 1}}, {[]scene.Op{create(2, 0), create(2, 0)}, state.Answer{Code: api.ErrHave, At: 1}}, {[]scene.Op{create(2, 1), {Kind: scene.SetHidden, Id: 2, On: true}}, state.Answer{At: 2}},
		{[]scene.Op{create(3, 0)}, state.Answer{Code: api.ErrArena}}, {[]scene.Op{{}}, state.Answer{Code: api.ErrKind}}, {[]scene.Op{{Kind: scene.SetHidden}, {Kind: scene.SetHidden}, {Kind: 9}}, state.Answer{Code: api.ErrKind, At: 2}}, {most, state.Answer{At: api.MaxOps}}, {tooMany, state.Answer{Code: api.ErrMany}},
		{[]scene.Op{far, farRoot}, state.Answer{Code: api.ErrOver, At: 2}}, {[]scene.Op{far}, state.Answer{At: 1}}, {[]scene.Op{{Kind: scene.SetOpacity, N: 256}}, state.Answer{Code: api.ErrRange}}, {[]scene.Op{{Kind: scene.Delete}}, state.Answer{Code: api.ErrRoot}}, {[]scene.Op{{Kind: scene.Move, Id: 1, Parent: 2}}, state.Answer{Code: api.ErrCycle}},
	} {
		was := s.Scene()
		asked(t, s, p, event.Event{Kind: event.Change, Ops: c.l}, c.want)
		if s.Facts() != (state.Facts{}) || c.want.Code != api.OK && !scene.Equal(was, s.Scene()) {
			t.Errorf("%d: %v", k, s.Facts())
		}
	}
}

// P20.2: the focus goes with its node, also if that lies in one that goes; not, if it is there again behind the transaction, nor by what is refused.
func TestFocus(t *testing.T) {
	s, p := with(t, 4, 1, fill(0, 0, 1, 1, 0xff), node.Plain(), fill(3, 0, 1, 1, 0xff))
	at := func(focus int, focused bool, x int) {
		t.Helper()
		if f := s.Facts(); f.Focus != focus || f.Focused != focused || f.X != x || f.Y != 0 || f.Clean {
			t.Fatalf("%v, not %d, %v, %d", f, focus, focused, x)
		}
	}
	do := func(e event.Event) {
		t.Helper()
		asked(t, s, p, e, state.Answer{At: len(e.Ops)})
	}
	remove := func(id int) scene.Op { return scene.Op{Kind: scene.Delete, Id: id} }
	at(0, false, 0)
	do(event.At(3, 0))
	at(3, true, 3)
	do(event.At(1, 0))
	at(0, false, 1)
	do(event.At(0, 0))
	at(1, true, 0)
	do(event.Of(scene.Op{Kind: scene.Move, Id: 1, Parent: 2}, remove(3)))
	at(1, true, 0)
	asked(t, s, p, event.Of(remove(2), remove(2)), state.Answer{Code: api.ErrNode, At: 1})
	at(1, true, 0)
	do(event.Of(append([]scene.Op{remove(1)}, scenery.Put(1, 2, 0, node.Plain())...)...))
	at(1, true, 0)
	do(event.Of(scene.Op{Kind: scene.SetHidden, Id: 1, On: true}))
	at(1, true, 0)
	asked(t, s, p, key(7), state.Answer{})
	do(event.Of(remove(2)))
	at(0, false, 0)
	if s.Facts().Keys != summed(0, 7) {
		t.Errorf("Keys: %08x", s.Facts().Keys)
	}
	asked(t, s, p, key(7), state.Answer{Code: api.ErrNone})
	do(event.Of(scene.Op{Kind: scene.Create, Id: 1}))
	at(0, false, 0)
}

// P20.2: the root may be hit, and is then the focus; it never goes.
func TestFocusOnRoot(t *testing.T) {
	s, p := made(t, 2, 1, 2)
	asked(t, s, p, event.At(1, 0), state.Answer{})
	asked(t, s, p, key(0), state.Answer{Code: api.ErrNone})
	asked(t, s, p, event.Of(scene.Op{Kind: scene.SetLook, Look: node.FillOf(1, 1, 0)}), state.Answer{At: 1})
	asked(t, s, p, event.At(0, 0), state.Answer{})
	if f := s.Facts(); f != (state.Facts{Focused: true}) {
		t.Errorf("%v", f)
	}
	asked(t, s, p, event.Of(scene.Op{Kind: scene.Delete}), state.Answer{Code: api.ErrRoot})
	asked(t, s, p, key(0), state.Answer{})
	asked(t, s, p, event.At(1, 0), state.Answer{})
	asked(t, s, p, key(0), state.Answer{Code: api.ErrNone})
}

// P20.2: each pixel of the screen is pressed, on top of what lies there, and none beside it.
func TestPress(t *testing.T) {
	s, p := with(t, 5, 3, fill(1, 0, 3, 2, 0xff), fill(2, 1, 9, 9, 0xff), fill(-4, -4, 4, 99, 0xff))
	focus := [][]int{{0, 1, 1, 1, 0}, {0, 1, 2, 2, 2}, {0, 0, 2, 2, 2}}
	far := []int{1 << 32, 1<<32 + 1, -1 << 32, math.MaxInt, math.MinInt}
	for _, x := range append([]int{-2, -1, 0, 1, 2, 3, 4, 5, 6}, far...) {
		for _, y := range append([]int{-2, -1, 0, 1, 2, 3, 4}, far...) {
			want := s.Facts()
			if x < 0 || x > 4 || y < 0 || y > 2 {
				asked(t, s, p, event.At(x, y), state.Answer{Code: api.ErrRange})
			} else {
				asked(t, s, p, event.At(x, y), state.Answer{})
				want.X, want.Y, want.Focus, want.Focused = x, y, focus[y][x], focus[y][x] > 0
			}
			if s.Facts() != want {
				t.Fatalf("%d, %d: %v, not %v", x, y, s.Facts(), want)
			}
		}
	}
}

// P20.2: a press hits what the scene has now, not what is shown of it.
func TestPressUnshown(t *testing.T) {
	s, p := made(t, 2, 1, 2)
	asked(t, s, p, event.Of(scenery.Put(1, 0, 0, fill(0, 0, 1, 1, 0xff))...), state.Answer{At: 6})
	asked(t, s, p, event.At(0, 0), state.Answer{})
	if f := s.Facts(); f.Focus != 1 || !f.Focused || s.Image().At(0, 0) != 0 {
		t.Errorf("%v", f)
	}
}

// P20.2: keys are summed one behind the other; of too great ones ErrRange comes first.
func TestKey(t *testing.T) {
	s, p := with(t, 1, 1, fill(0, 0, 1, 1, 0xff))
	wrong := []uint64{256, 257, 263, 1 << 16, 1 << 32, 1<<32 + 7, math.MaxUint64}
	for _, focused := range []bool{false, true} {
		want := s.Facts().Keys
		for n := range uint64(256) {
			if !focused {
				asked(t, s, p, key(n), state.Answer{Code: api.ErrNone})
				continue
			}
			asked(t, s, p, key(n), state.Answer{})
			want = summed(want, byte(n))
		}
		for _, n := range wrong {
			asked(t, s, p, key(n), state.Answer{Code: api.ErrRange})
		}
		if s.Facts().Keys != want {
			t.Errorf("Keys: %08x, not %08x", s.Facts().Keys, want)
		}
		asked(t, s, p, event.At(0, 0), state.Answer{})
	}
	// The sum of all bytes, in their order.
	if k := s.Facts().Keys; k != 0x29058c73 {
		t.Errorf("Keys: %08x", k)
	}
}

// P20.2: a clock doesn't go back; it may stand, and go on by any step.
func TestClock(t *testing.T) {
	s, p := made(t, 1, 1, 1)
	for _, c := range []struct{ n, time uint64 }{{0, 0}, {5, 5}, {4, 5}, {5, 5}, {0, 5}, {6, 6}, {1 << 32, 1 << 32}, {1<<32 - 1, 1 << 32}, {6, 1 << 32}, {1 << 63, 1 << 63}, {1<<63 - 1, 1 << 63}, {math.MaxUint64, math.MaxUint64}, {math.MaxUint64 - 1, math.MaxUint64}, {0, math.MaxUint64}, {math.MaxUint64, math.MaxUint64}} {
		want := state.Answer{}
		if c.n != c.time {
			want.Code = api.ErrClock
		}
		asked(t, s, p, event.Number(event.Clock, c.n), want)
		if s.Facts() != (state.Facts{Time: c.time}) {
			t.Errorf("%d: %v", c.n, s.Facts())
		}
	}
}

// P20.2: draws are counted, and the last one is kept; kinds that there aren't do nothing but leave the state unclean.
func TestDrawAndOthers(t *testing.T) {
	s, p := made(t, 1, 1, 1)
	asked(t, s, p, tick(), state.Answer{Frame: 1, Sum: 0xc4e5095c})
	want := state.Facts{Frames: 1, Sum: 0xc4e5095c}
	for k, n := range []uint64{7, 0, 0, math.MaxUint64, 1 << 63, 256} {
		asked(t, s, p, event.Number(event.Draw, n), state.Answer{})
		if want.Drawn, want.Draws = n, k+1; s.Facts() != want {
			t.Errorf("%d: %v", n, s.Facts())
		}
	}
	for _, kind := range []int{0, 7, 8, -1, -2, 256 + 5, 1<<32 + 6, math.MaxInt, math.MinInt} {
		e := event.Event{Kind: kind, Ops: []scene.Op{{Kind: scene.SetHidden, On: true}}, N: 9}
		asked(t, s, p, e, state.Answer{Code: api.ErrKind})
		if s.Facts() != want {
			t.Errorf("%d: %v", kind, s.Facts())
		}
	}
}

// P20.2: Clean is so behind a Tick, and at first, and behind nothing else, whatever that is answered.
func TestClean(t *testing.T) {
	l := []event.Event{event.Of(), event.Of(scene.Op{}), event.At(0, 0), event.At(0, 9), key(1), key(256), event.Number(event.Clock, 0), event.Number(event.Draw, 0), {}, event.Number(7, 0)}
	for _, e := range l {
		s, p := made(t, 1, 1, 1)
		for range 2 {
			done(t, s, p, e)
			if s.Facts().Clean {
				t.Errorf("%v: Clean", e)
			}
			done(t, s, p, e)
			done(t, s, p, tick())
			done(t, s, p, tick())
			if !s.Facts().Clean {
				t.Errorf("a Tick behind %v: not Clean", e)
			}
		}
	}
}

// P20.2, P20.3: by hand: what is shown is the last Tick's, whatever came since.
func TestShown(t *testing.T) {
	const a, b = 0xff0000ff, 0x00800080
	s, p := made(t, 3, 1, 9)
	frames := 0
	for k, c := range []struct {
		e    event.Event
		want []pixel.Pixel
	}{
		{tick(), []pixel.Pixel{0, 0, 0}}, {event.Of(scenery.Put(1, 0, 0, fill(0, 0, 2, 1, a))...), []pixel.Pixel{0, 0, 0}}, {key(1), []pixel.Pixel{0, 0, 0}}, {tick(), []pixel.Pixel{a, a, 0}},
		{event.Of(scene.Op{Kind: scene.Delete, Id: 1}), []pixel.Pixel{a, a, 0}}, {event.Of(scenery.Put(2, 0, 0, fill(1, 0, 9, 1, b))...), []pixel.Pixel{a, a, 0}}, {event.Of(scene.Op{Kind: scene.SetHidden, On: true}, scene.Op{}), []pixel.Pixel{a, a, 0}},
		{event.At(0, 0), []pixel.Pixel{a, a, 0}}, {tick(), []pixel.Pixel{0, b, b}}, {tick(), []pixel.Pixel{0, b, b}}, {event.Of(scene.Op{Kind: scene.SetHidden, On: true}), []pixel.Pixel{0, b, b}}, {tick(), []pixel.Pixel{0, 0, 0}},
	} {
		done(t, s, p, c.e)
		if c.e.Kind == event.Tick {
			frames++
		}
		if !slices.Equal(s.Image().Pixels, c.want) || s.Facts().Frames != frames {
			t.Errorf("%d: %08x, not %08x, %d frames", k, s.Image().Pixels, c.want, s.Facts().Frames)
		}
	}
}

// P20.2: an event is done as its plain form: by hand, with all set that its kind doesn't have.
func TestPlainForm(t *testing.T) {
	s, p := with(t, 4, 4, fill(0, 0, 2, 2, 0xff))
	junk := []scene.Op{{Kind: scene.Delete, Id: 1}, {}}
	for _, e := range []event.Event{{Kind: 2, Ops: junk, X: 1, Y: 1, N: 300}, {Kind: 3, Ops: junk, X: 99, Y: -1, N: 255}, {Kind: 4, Ops: junk, X: 99, Y: -1, N: 9}, {Kind: 5, Ops: junk, X: 99, Y: -1, N: 8}, {Kind: 1, Ops: []scene.Op{{Kind: scene.SetHidden, Id: 1, N: 999, Parent: 77}}, X: 99, Y: -1, N: 7}, {Kind: 6, Ops: junk, X: 99, Y: -1, N: 6}} {
		a := done(t, s, p, e)
		if a.Code != api.OK || (a.Frame == 1) != (e.Kind == 6) {
			t.Errorf("%v: %v", e, a)
		}
	}
	want := state.Facts{Focus: 1, Focused: true, Clean: true, X: 1, Y: 1, Keys: summed(0, 255), Sum: s.Facts().Sum, Time: 9, Drawn: 8, Draws: 1, Frames: 1}
	if s.Facts() != want {
		t.Errorf("%v, not %v", s.Facts(), want)
	}
}

// P20.2, P20.3: walks of events without a pattern; each kind is among those that are done, and those that aren't.
func TestWalks(t *testing.T) {
	answers := map[[2]int]int{}
	for seed := range uint64(120) {
		next := noise.Numbers(seed)
		s, p := made(t, 1+below(next, 14), 1+below(next, 14), 1+below(next, 20))
		if below(next, 2) == 0 {
			z := scenery.Scene(next, p.image.W, p.image.H, 2+below(next, 20))
			f := arrivals.Facts(next, z)
			s, _ = state.Of(z, f)
			p = of(z, f)
		}
		for range 80 {
			e := drawn(next, p)
			answers[[2]int{e.Kind, int(done(t, s, p, e).Code)}]++
		}
	}
	for _, c := range [][2]int{{1, 0}, {1, 30}, {1, 31}, {1, 11}, {2, 0}, {2, 11}, {3, 0}, {3, 11}, {3, 14}, {4, 0}, {4, 37}, {5, 0}, {6, 0}, {0, 38}} {
		if answers[c] < 3 {
			t.Errorf("%v: %d", c, answers[c])
		}
	}
}

// P20.2: Fold does all events, in order, and answers them one by one; none of none.
func TestFold(t *testing.T) {
	for seed := range uint64(60) {
		next := noise.Numbers(700 + seed)
		s, p := made(t, 7, 6, 12)
		for n := range 12 {
			var l, was []event.Event
			var want []state.Answer
			q := p.copied()
			for range n {
				e := drawn(next, p)
				l, was, want = append(l, e), append(was, arrivals.Copy(e)), append(want, p.do(e))
			}
			c := s.Copy()
			if got := state.Fold(s, l...); !slices.Equal(got, want) || !slices.EqualFunc(l, was, event.Equal) {
				t.Fatalf("Fold: %v, not %v", got, want)
			}
			stands(t, s, p)
			stands(t, c, q)
		}
	}
}

// P20.2: of what Peek tells nothing stays, and it is what the Tick then answers, however often it is asked, amid all else.
func TestPeek(t *testing.T) {
	next := noise.Numbers(9)
	z := scenery.Scene(next, 12, 9, 15)
	s, _ := state.Of(z, state.Facts{})
	for range 50 {
		c, m := s.Copy(), s.Image()
		a := s.Peek()
		if b := s.Peek(); a != b || !state.Equal(s, c) || !image.Equal(s.Image(), m) || a.Frame != s.Facts().Frames+1 {
			t.Fatalf("Peek: %v, %v", a, b)
		}
		if b := s.Do(tick()); a != b || !image.Equal(s.Image(), raster.Pix(s.Scene())) {
			t.Fatalf("Tick: %v, not %v", b, a)
		}
		s.Do(event.Of(scenery.Op(next, s.Scene())))
	}
}

// P1: counts at the greatest number: no call panics.
func TestGreatestCounts(t *testing.T) {
	z := scenery.Of(2, 2)
	f := state.Facts{Draws: math.MaxInt, Frames: math.MaxInt}
	s, _ := state.Of(z, f)
	p := of(z, f)
	for _, e := range []event.Event{event.Number(event.Draw, 1), tick(), tick(), event.Number(event.Draw, 1), tick()} {
		done(t, s, p, e)
	}
}

// P20.2, P20.3: of the greatest screen, and as many nodes as there may be.
func TestGreatest(t *testing.T) {
	s, e := state.New(api.MaxSide, api.MaxSide, api.MaxNodes)
	if e != api.OK {
		t.Fatalf("New: %d", e)
	}
	var l []event.Event
	for id := 1; id < api.MaxNodes; {
		var ops []scene.Op
		for ; id < api.MaxNodes && len(ops) < 1000; id++ {
			ops = append(ops, scene.Op{Kind: scene.Create, Id: id, Place: id - 1}, scene.Op{Kind: scene.SetMap, Id: id, Map: affine.Shift(int64(id%256*16)*api.One, int64(id/256*16)*api.One)})
		}
		l = append(l, event.Of(ops...))
	}
	l = append(l, event.Of(scene.Op{Kind: scene.SetLook, Id: 65535, Look: node.FillOf(16, 16, 0xff)}), event.At(4095, 4095), key(1), tick())
	for k, a := range state.Fold(s, l...) {
		if a.Code != api.OK || a.At != len(l[k].Ops) {
			t.Fatalf("%d: %v", k, a)
		}
	}
	if f := s.Facts(); f.Focus != 65535 || !f.Clean || s.Image().At(4095, 4095) != 0xff || s.Image().At(4079, 4095) != 0 {
		t.Errorf("%v", f)
	}
}
