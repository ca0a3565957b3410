package pack_test

import (
	"bytes"
	"math"
	"slices"
	"testing"

	"mutoscope/affine"
	"mutoscope/api"
	"mutoscope/arrivals"
	"mutoscope/event"
	"mutoscope/image"
	"mutoscope/node"
	"mutoscope/noise"
	"mutoscope/pack"
	"mutoscope/pixel"
	"mutoscope/rect"
	"mutoscope/scene"
	"mutoscope/state"
)

// The calls that the chapter lists, by their signatures.
var (
	_ func(e event.Event) ([]byte, api.Errno)  = pack.Event
	_ func(b []byte) (event.Event, api.Errno)  = pack.GetEvent
	_ func(s *state.State) []byte              = pack.State
	_ func(b []byte) (*state.State, api.Errno) = pack.GetState
)

// look is an op that sets a look.
func look(l node.Look) scene.Op { return scene.Op{Kind: scene.SetLook, Look: l} }

// P21.1: the chapter's examples.
func TestExample(t *testing.T) {
	if b, e := pack.Event(event.Number(event.Tick, 0)); string(b) != "\x06" || e != api.OK {
		t.Errorf("%x, %d", b, e)
	}
	if b, e := pack.Event(event.At(1, -1)); string(b) != "\x02\x02\x01" || e != api.OK {
		t.Errorf("%x, %d", b, e)
	}
}

// P21.1: bytes by hand, of each kind of event, op and look, and back.
func TestEventByHand(t *testing.T) {
	full := func(kind int) event.Event { return event.Of(arrivals.FullOp(kind)) }
	for k, c := range []struct {
		e    event.Event
		want string
	}{
		{event.Event{}, "\x00"}, {arrivals.Full(0), "\x00"}, {arrivals.Full(6), "\x06"}, {arrivals.Full(7), "\x07"}, {arrivals.Full(255), "\xff"},
		{arrivals.Full(2), "\x02\x92\x03\x94\x03"}, {arrivals.Full(3), "\x03\xcb\x01"}, {arrivals.Full(4), "\x04\xcb\x01"}, {arrivals.Full(5), "\x05\xcb\x01"},
		{event.At(math.MinInt, math.MaxInt), "\x02\xff\xff\xff\xff\xff\xff\xff\xff\xff\x01\xfe\xff\xff\xff\xff\xff\xff\xff\xff\x01"}, {event.Number(event.Draw, math.MaxUint64), "\x05\xff\xff\xff\xff\xff\xff\xff\xff\xff\x01"}, {event.Number(event.Clock, 1<<63), "\x04\x80\x80\x80\x80\x80\x80\x80\x80\x80\x01"}, {event.Number(event.Key, 0), "\x03\x00"},
		{event.Of(), "\x01\x00"}, {event.Of(scene.Op{}, scene.Op{Kind: 9}, scene.Op{Kind: 255}), "\x01\x03\x00\x09\xff"}, {full(0), "\x01\x01\x00"}, {full(9), "\x01\x01\x09"},
		{full(1), "\x01\x01\x01\xca\x01\xcc\x01\xce\x01"}, {full(2), "\x01\x01\x02\xca\x01"}, {full(3), "\x01\x01\x03\xca\x01\xcc\x01\xce\x01"},
		{full(4), "\x01\x01\x04\xca\x01\xd0\x01\xd2\x01\xd4\x01\xd6\x01\xd8\x01\xda\x01"}, {full(5), "\x01\x01\x05\xca\x01\x01\xdc\x01\xde\x01\xe0\x01\xe2\x01"}, {full(6), "\x01\x01\x06\xca\x01\xe4\x01"},
		{full(7), "\x01\x01\x07\xca\x01\x73\xe8\x01\xea\x01\x76\xee\x01\xf0\x01\x02\x79\x7a"}, {full(8), "\x01\x01\x08\xca\x01\x01"},
		{event.Of(scene.Op{Kind: scene.Move, Id: -1, Parent: -2, Place: -64}, scene.Op{Kind: scene.SetHidden}), "\x01\x02\x03\x01\x03\x7f\x08\x00\x00"},
		{event.Of(scene.Op{Kind: scene.SetMap, Map: affine.Map{A: math.MinInt64, F: -65}}), "\x01\x01\x04\x00\xff\xff\xff\xff\xff\xff\xff\xff\xff\x01\x00\x00\x00\x00\x81\x01"},
		{event.Of(scene.Op{Kind: scene.SetClip, Clip: rect.Rect{X0: -1, Y0: 1, X1: -3, Y1: 3}}), "\x01\x01\x05\x00\x00\x01\x02\x05\x06"}, {event.Of(scene.Op{Kind: scene.SetOpacity, Id: 3, N: -1}), "\x01\x01\x06\x06\x01"},
		{event.Of(look(node.Look{})), "\x01\x01\x07\x00\x00\x00\x00\x00\x00\x00\x00"}, {event.Of(look(node.Look{Kind: 255, Color: math.MaxUint32})), "\x01\x01\x07\x00\xff\x00\x00\xff\xff\xff\xff\x0f\x00\x00\x00"},
		{event.Of(look(node.ImageOf(image.Image{W: 1, H: 2, Pixels: []pixel.Pixel{0x00400080, math.MaxUint32}})), scene.Op{Kind: scene.Delete, Id: 2}), "\x01\x02\x07\x00\x02\x00\x00\x00\x02\x04\x02\x80\x81\x80\x02\xff\xff\xff\xff\x0f\x02\x04"},
	} {
		if b := written(t, c.e); string(b) != c.want {
			t.Errorf("%d: %x, not %x", k, b, c.want)
		}
		if e, ok := read(t, []byte(c.want)); !ok || !event.Equal(e, c.e.Plain()) {
			t.Errorf("%d: %v, not %v", k, e, c.e.Plain())
		}
	}
}

// P21.1: Kinds that are no bytes: of events, of a Change's ops, and of looks that these set; not where the plain form has none of these.
func TestKinds(t *testing.T) {
	wrong := []int{-1, 256, 257, 262, 1 << 32, 1<<32 + 2, -255, -256, math.MaxInt, math.MinInt}
	for kind := range 256 {
		l := node.Look{Kind: kind}
		for _, e := range []event.Event{{Kind: kind, X: 3}, event.Of(scene.Op{Kind: kind, On: true}), event.Of(scene.Op{}, look(l), scene.Op{})} {
			if written(t, e) == nil {
				t.Errorf("%v has no bytes", e)
			}
		}
	}
	for _, kind := range wrong {
		l := node.Look{Kind: kind}
		for _, e := range []event.Event{{Kind: kind}, arrivals.Full(kind), event.Of(scene.Op{Kind: kind}), event.Of(scene.Op{}, arrivals.FullOp(kind)), event.Of(look(l)), event.Of(scene.Op{Kind: kind}, look(l)), event.Of(scene.Op{}, look(l), scene.Op{})} {
			if b, code := pack.Event(e); len(b) != 0 || code != api.ErrForm {
				t.Errorf("Event %v: %x, %d", e, b, code)
			}
		}
		ops := []scene.Op{{Kind: kind}, look(l)}
		for _, e := range []event.Event{{Ops: ops}, {Kind: 2, Ops: ops}, {Kind: 6, Ops: ops}, {Kind: 77, Ops: ops}, event.Of(scene.Op{Kind: scene.SetHidden, Look: l}), event.Of(scene.Op{Look: l}), event.Of(scene.Op{Kind: 99, Look: l})} {
			if written(t, e) == nil {
				t.Errorf("%v has no bytes", e)
			}
		}
	}
}

// P21.1: each number of an event, an op, and a look, at its bounds and about those of bytes.
func TestEachNumber(t *testing.T) {
	far := arrivals.Far()
	for k := range 64 {
		far = append(far, 1<<k-1, 1<<k, -1<<k, -1<<k-1)
	}
	for _, n := range far {
		written(t, event.At(n, 1))
		written(t, event.At(1, n))
		for kind := event.Key; kind <= event.Draw; kind++ {
			written(t, event.Number(kind, uint64(n)))
		}
		m := int64(n)
		for kind := scene.Create; kind <= scene.SetHidden; kind++ {
			written(t, event.Of(
				scene.Op{Kind: kind, Id: n}, scene.Op{Kind: kind, Parent: n}, scene.Op{Kind: kind, Place: n}, scene.Op{Kind: kind, N: n},
				scene.Op{Kind: kind, Map: affine.Map{A: m}}, scene.Op{Kind: kind, Map: affine.Map{B: m}}, scene.Op{Kind: kind, Map: affine.Map{C: m}}, scene.Op{Kind: kind, Map: affine.Map{D: m}}, scene.Op{Kind: kind, Map: affine.Map{E: m}}, scene.Op{Kind: kind, Map: affine.Map{F: m}},
				scene.Op{Kind: kind, Clip: rect.Rect{X0: n}}, scene.Op{Kind: kind, Clip: rect.Rect{Y0: n}}, scene.Op{Kind: kind, Clip: rect.Rect{X1: n}}, scene.Op{Kind: kind, Clip: rect.Rect{Y1: n}},
			))
		}
		p := pixel.Pixel(uint32(n))
		written(t, event.Of(
			look(node.Look{W: n}), look(node.Look{H: n}), look(node.Look{Color: p}), look(node.Look{Image: image.Image{W: n}}), look(node.Look{Image: image.Image{H: n}}),
			look(node.Look{Image: image.Image{Pixels: []pixel.Pixel{p}}}), look(node.Look{Image: image.Image{Pixels: []pixel.Pixel{1, p, 2}}}),
		))
	}
}

// P21.1: events without a pattern, few of them plain, also such as have no bytes, and those that a state mostly does.
func TestEvents(t *testing.T) {
	next := noise.Numbers(1)
	none := 0
	for range 5000 {
		if written(t, arrivals.Any(next)) == nil {
			none++
		}
	}
	if none < 200 || none > 4000 {
		t.Errorf("%d without bytes", none)
	}
	s, _ := state.New(9, 7, 12)
	for range 1000 {
		e := arrivals.On(next, s.Scene(), s.Facts().Time)
		if b := written(t, e); b != nil {
			got, _ := pack.GetEvent(b)
			c := s.Copy()
			if x, y := s.Do(e), c.Do(got); x != y || !state.Equal(s, c) {
				t.Fatalf("Do %v: %v, %v", e, x, y)
			}
		}
	}
}

// P21.1: all short rows of bytes are read, or refused, as the chapter says; so are those behind the beginning of each op, and of a look.
func TestGetEventOfShort(t *testing.T) {
	heads := []string{"", "\x01\x01", "\x01\x02\x09", "\x01\x01\x07\x00\x02\x00\x00", "\x01\x01\x07\x00\x02\x00\x00\x00\x00\x00", "\x01\x01\x05\x00", "\x01\x01\x08", "\x03\xff\xff\xff\xff\xff\xff\xff\xff", "\x01\x01\x07\x00\x01\x02\x02\xff\xff\xff\xff"}
	for kind := range 8 {
		heads = append(heads, string([]byte{byte(kind)}))
	}
	for kind := range 10 {
		heads = append(heads, string([]byte{1, 1, byte(kind), 4}))
	}
	right := 0
	for _, head := range heads {
		read(t, []byte(head))
		seconds := allBytes()
		if len(head) > 2 {
			seconds = someBytes()
		}
		for _, a := range allBytes() {
			read(t, append([]byte(head), a))
			for _, b := range seconds {
				if _, ok := read(t, append([]byte(head), a, b)); ok {
					right++
				}
			}
		}
	}
	if right < 20000 {
		t.Errorf("%d are events", right)
	}
}

// P21.1: bytes of events that are cut, or have a byte more, less, or another one, at each place.
func TestGetEventOfAltered(t *testing.T) {
	m := node.ImageOf(noise.Image(noise.Numbers(3), 3, 2))
	l := []event.Event{event.At(100, -100), event.Number(event.Clock, math.MaxUint64), event.Number(event.Tick, 0), event.Of(look(m), look(node.FillOf(300, 2, 0xff)))}
	for kind := range 10 {
		l = append(l, event.Of(arrivals.FullOp(kind)))
	}
	right, wrong := 0, 0
	count := func(b []byte) {
		if _, ok := read(t, b); ok {
			right++
		} else {
			wrong++
		}
	}
	for _, e := range l {
		for _, b := range altered(written(t, e), allBytes()) {
			count(b)
		}
	}
	next := noise.Numbers(4)
	for range 60 {
		e := arrivals.Any(next)
		if b := written(t, e); len(b) < 300 {
			for _, b := range altered(b, someBytes()) {
				count(b)
			}
		}
	}
	if min(right, wrong) < 10000 {
		t.Errorf("%d right, %d wrong", right, wrong)
	}
}

// P21.1: rows of bytes without a pattern.
func TestGetEventOfNoise(t *testing.T) {
	for n := range 400 {
		b := noise.Bytes(n)
		read(t, b)
		if n > 2 {
			b[0], b[1] = 1, byte(n%9)
			read(t, b)
		}
	}
}

// P21.1: as many ops, and as many pixels, as may be, and one more: that one has bytes, and isn't read.
func TestGetEventOfMany(t *testing.T) {
	for _, c := range []struct {
		n  int
		ok bool
	}{{api.MaxOps - 1, true}, {api.MaxOps, true}, {api.MaxOps + 1, false}, {3 * api.MaxOps, false}} {
		l := make([]scene.Op, c.n)
		for k := range l {
			l[k] = scene.Op{Kind: scene.SetHidden, Id: k, On: true}
		}
		l[c.n-1] = look(node.ImageOf(image.Image{W: 1, H: 1, Pixels: []pixel.Pixel{1, 2}}))
		b := written(t, event.Of(l...))
		if e, code := pack.GetEvent(b); b == nil || c.ok != (code == api.OK) || c.ok != (len(e.Ops) == c.n) || !c.ok && e.Kind != 0 {
			t.Errorf("%d ops: %d", c.n, code)
		}
	}
	const most = api.MaxImage * api.MaxImage
	for _, c := range []struct {
		n, w, h int
		ok      bool
	}{{most - 1, 256, 256, true}, {most, 256, 256, true}, {most, -1, 5, true}, {most, 65536, 1, true}, {most + 1, 256, 256, false}, {most + 1, 0, 0, false}, {2 * most, 512, 256, false}} {
		m := node.ImageOf(image.Image{W: c.w, H: c.h, Pixels: slices.Repeat([]pixel.Pixel{0xff, 0, math.MaxUint32}, c.n/3+1)[:c.n]})
		b := written(t, event.Of(look(m), scene.Op{Kind: scene.Delete, Id: 7}))
		e, code := pack.GetEvent(b)
		if b == nil || c.ok != (code == api.OK) || !c.ok && len(e.Ops) != 0 {
			t.Errorf("%d pixels: %d", c.n, code)
		}
	}
}

// P21.1: bytes that tell of far more than stands behind.
func TestGetEventOfTooFew(t *testing.T) {
	counts := [][]byte{number(3), number(200), number(1000), number(1024), number(1025), number(65536), number(65537), number(1 << 31), number(1 << 32), number(1<<32 + 1), number(1 << 62), number(1 << 63), number(math.MaxUint64)}
	for _, head := range []string{"\x01", "\x01\x01\x07\x00\x02\x00\x00\x00\x02\x02", "\x01\x81\x01\x07\x00\x02\x00\x00\x00\x02\x02"} {
		for _, n := range counts {
			for _, tail := range []string{"", "\x07", "\x00\x80"} {
				b := slices.Concat([]byte(head), n, []byte(tail))
				if _, ok := read(t, b); ok {
					t.Errorf("GetEvent %x", b)
				}
			}
		}
	}
}

// The rule of memory: what Event is handed is neither changed nor kept, its spare room neither, and its answers are new memory.
func TestEventMemory(t *testing.T) {
	pixels := noise.Image(noise.Numbers(5), 4, 3).Pixels
	was := slices.Clone(pixels)
	// Two ops have one image's pixels; behind these, and behind the ops, is spare room.
	ops := []scene.Op{look(node.Look{Kind: 2, Image: image.Image{W: 4, H: 2, Pixels: pixels[:8]}}), look(node.Look{Kind: 2, Image: image.Image{W: 2, H: 4, Pixels: pixels[:8]}}), {Kind: scene.SetOpacity, Id: 4, Parent: 5}, {Id: 6}}
	e := event.Event{Kind: event.Change, Ops: ops[:3], X: 7}
	a, _ := pack.Event(e)
	b, _ := pack.Event(e)
	want := slices.Clone(b)
	if !slices.Equal(pixels, was) || ops[2].Parent != 5 || ops[3].Id != 6 || e.X != 7 {
		t.Error("what was handed in is changed")
	}
	spoil(a)
	if !bytes.Equal(b, want) {
		t.Error("two answers share memory")
	}
	clear(pixels)
	clear(ops)
	if !bytes.Equal(b, want) {
		t.Error("what was handed in is kept")
	}
}

// The rule of memory: so it is of GetEvent; and no two lists of one answer share any, spare room too.
func TestGetEventMemory(t *testing.T) {
	e := event.Event{Kind: event.Change}
	for k := range 9 {
		e.Ops = append(e.Ops, look(node.ImageOf(noise.Image(noise.Numbers(uint64(k)), 3, 1+k))))
	}
	l := append(written(t, e), 1, 2, 3)
	b := l[:len(l)-3]
	x, _ := pack.GetEvent(b)
	y, _ := pack.GetEvent(b)
	if !bytes.Equal(l[len(b):], []byte{1, 2, 3}) {
		t.Error("spare room is changed")
	}
	spoil(l)
	for k := range x.Ops {
		m := &x.Ops[k].Look.Image
		p := m.Pixels[:cap(m.Pixels)]
		for j := range p {
			p[j] ^= math.MaxUint32
		}
		m.Pixels = nil
		for j := range x.Ops {
			if j > k && !slices.Equal(x.Ops[j].Look.Image.Pixels, e.Ops[j].Look.Image.Pixels) {
				t.Fatalf("ops %d and %d share memory", k, j)
			}
		}
	}
	clear(x.Ops[:cap(x.Ops)])
	if !event.Equal(y, e) {
		t.Error("two answers share memory")
	}
}

// spoil turns all bits of l, and of its spare room.
func spoil(l []byte) {
	l = l[:cap(l)]
	for k := range l {
		l[k] ^= 255
	}
}
