package pack_test

import (
	"bytes"
	"math"
	"slices"
	"testing"

	"mutoscope/affine"
	"mutoscope/api"
	"mutoscope/arrivals"
	"mutoscope/event"
	"mutoscope/image"
	"mutoscope/node"
	"mutoscope/noise"
	"mutoscope/pack"
	"mutoscope/pixel"
	"mutoscope/rect"
	"mutoscope/scene"
	"mutoscope/scenery"
	"mutoscope/state"
)

// plainRow is the bytes of layer 11's Plain.
const plainRow = "\x80\x80\x08\x00\x00\x80\x80\x08\x00\x00" + "\xfe\x03" + "\x00\x00" + "\x00\x00\x00\x00" + "\x00\x00\x00\x00\x00\x00\x00"

// sample is a state by the chapter's words, that is right: 0 has 5, which has 7 and 9; 2 is behind them.
func sample() whole {
	at := func(id, depth uint64) row {
		return row{Id: id, Depth: depth, Map: affine.Shift(api.One, 0), Opacity: 200}
	}
	x := whole{W: 6, H: 4, Nodes: 8, Rows: []row{at(0, 0), at(5, 1), at(7, 2), at(9, 2), at(2, 1)}}
	x.Rows[2].Look = node.FillOf(2, 3, 0x204060ff)
	x.Rows[3].Clipped, x.Rows[3].Clip = true, rect.Rect{X0: -1, Y0: -2, X1: 3, Y1: 4}
	x.Rows[4].Hidden, x.Rows[4].Look = true, node.ImageOf(image.Image{W: 2, H: 1, Pixels: []pixel.Pixel{0xff, 0x80}})
	x.Focus, x.Focused, x.X, x.Y, x.Keys, x.Sum, x.Time, x.Drawn, x.Draws, x.Frames = 7, true, 3, 2, 500, 600, 700, 800, 9, 10
	return x
}

// P21.2: bytes by hand: of a new state, and of one in which no two numbers of one kind are the same.
func TestStateByHand(t *testing.T) {
	s, _ := state.New(4, 3, 9)
	if b, _ := writtenState(t, s); string(b) != "\x04\x03\x09\x01\x00\x00"+plainRow+"\x00\x00\x01\x00\x00\x00\x00\x00\x00\x00\x00" {
		t.Errorf("%x", b)
	}
	z, _ := scene.New(300, 200, 65536)
	n := node.Node{Map: affine.Map{A: 1, B: -1, C: 2, D: -2, E: 3, F: -3}, Opacity: 100, Hidden: true, Clipped: true, Clip: rect.Rect{X0: -64, Y0: 4, X1: 64, Y1: -5}, Look: node.FillOf(6, 7, 0xff)}
	z.Apply(scenery.Put(128, 0, 0, n)...)
	z.Apply(scenery.Put(3, 128, 0, scenery.With(func(n *node.Node) {
		n.Look = node.ImageOf(image.Image{W: 2, H: 1, Pixels: []pixel.Pixel{0x80, 0}})
	}))...)
	s, e := state.Of(z, state.Facts{Focus: 128, Focused: true, X: 299, Y: 2, Keys: 129, Sum: math.MaxUint32, Time: math.MaxUint64, Drawn: 1, Draws: 2, Frames: math.MaxInt})
	if e != api.OK {
		t.Fatalf("Of: %d", e)
	}
	want := "\xac\x02\xc8\x01\x80\x80\x04" + "\x03" + "\x00\x00" + plainRow +
		"\x80\x01\x01" + "\x02\x01\x04\x03\x06\x05" + "\xc8\x01" + "\x01\x01" + "\x7f\x08\x80\x01\x09" + "\x01\x0c\x0e\xff\x01\x00\x00\x00" +
		"\x03\x02" + plainRow[:18] + "\x02\x00\x00\x00\x04\x02\x02\x80\x01\x00" +
		"\x80\x01\x01\x00" + "\xd6\x04\x04" + "\x81\x01" + "\xff\xff\xff\xff\x0f" + "\xff\xff\xff\xff\xff\xff\xff\xff\xff\x01" + "\x01" + "\x02" + "\xff\xff\xff\xff\xff\xff\xff\xff\x7f"
	if b, _ := writtenState(t, s); string(b) != want {
		t.Errorf("%x, not %x", b, want)
	}
	if x := sample(); readState(t, bytesOf(x)) == nil {
		t.Error("the sample isn't right")
	}
}

// P21.2: states without a pattern, on which events come: each goes both ways, and what was read goes on as it does.
func TestStates(t *testing.T) {
	for seed := range uint64(120) {
		next := noise.Numbers(seed)
		z := scenery.Scene(next, 1+int(next()%12), 1+int(next()%12), 1+int(next()%20))
		s, e := state.Of(z, arrivals.Facts(next, z))
		if e != api.OK {
			t.Fatalf("Of: %d", e)
		}
		_, c := writtenState(t, s)
		for range 20 {
			e := arrivals.On(next, s.Scene(), s.Facts().Time)
			if x, y := s.Do(e), c.Do(e); x != y || !state.Equal(s, c) {
				t.Fatalf("Do %v: %v, %v", e, x, y)
			}
			_, c = writtenState(t, s)
		}
		if x, y := s.Do(event.Number(event.Tick, 0)), c.Do(event.Number(event.Tick, 0)); x != y || !image.Equal(s.Image(), c.Image()) {
			t.Fatalf("Tick: %v, %v", x, y)
		}
	}
}

// P21.2: its screen is as Of has it: the picture, if it is Clean, and else nothing, also if the state that was written showed some.
func TestGetStateShows(t *testing.T) {
	s, _ := state.New(3, 1, 9)
	l := []event.Event{event.Of(scene.Op{Kind: scene.SetLook, Look: node.FillOf(2, 1, 0xff)}), event.Number(event.Tick, 0), event.Number(event.Key, 0)}
	for k, want := range []pixel.Pixel{0, 0xff, 0} {
		s.Do(l[k])
		_, c := writtenState(t, s)
		if c.Image().At(1, 0) != want || c.Image().At(2, 0) != 0 {
			t.Errorf("%d: %v", k, c.Image())
		}
	}
}

// P21.2: parts of a state, each at its bounds, and past them: one that is past them makes bytes that are no state's.
func TestGetStateByHand(t *testing.T) {
	if readState(t, bytesOf(sample())) == nil {
		t.Fatal("the sample")
	}
	for k, f := range rightChanges() {
		x := sample()
		if f(&x); readState(t, bytesOf(x)) == nil {
			t.Errorf("%d: refused", k)
		}
	}
	for k, f := range wrongChanges() {
		x := sample()
		if f(&x); readState(t, bytesOf(x)) != nil {
			t.Errorf("%d: a state", k)
		}
	}
}

func rightChanges() []func(x *whole) {
	return []func(x *whole){
		func(x *whole) { x.W, x.H, x.X, x.Y = 4096, 1, 4095, 0 }, func(x *whole) { x.W, x.H, x.X, x.Y = 4, 4096, 0, 4095 }, func(x *whole) { x.W, x.H = 4, 3 }, func(x *whole) { x.Nodes = 5 }, func(x *whole) { x.Nodes = 65536 },
		func(x *whole) { x.Rows = x.Rows[:1]; x.Nodes, x.Focus = 1, 0 }, func(x *whole) { x.Rows[4].Id = 65535 }, func(x *whole) { x.Rows[4].Id = 1 }, func(x *whole) { x.Rows[4].Depth = 3 }, func(x *whole) { x.Rows[4].Depth = 2 }, func(x *whole) { x.Rows[3].Depth = 1 }, func(x *whole) { x.Rows[3].Depth = 3 },
		func(x *whole) { x.Rows[3].Opacity = 0 }, func(x *whole) { x.Rows[0].Opacity = 255 }, func(x *whole) { x.Rows[0].Hidden = true }, func(x *whole) { x.Rows[3].Clip = rect.Rect{X0: -16384, Y0: 16384, X1: -16384, Y1: 16384} }, func(x *whole) { x.Rows[3].Clip = rect.Rect{} },
		func(x *whole) {
			x.Rows[4].Map = affine.Map{A: -api.MaxFix, B: api.MaxFix, C: api.MaxFix, D: -api.MaxFix}
		}, func(x *whole) { x.Rows[4].Map = affine.Map{} }, func(x *whole) { x.Rows[0].Map = affine.Shift(api.MaxFix-2*api.One, -api.MaxFix) }, func(x *whole) { x.Rows[2].Map = affine.Shift(api.MaxFix-2*api.One, 0) },
		func(x *whole) {
			x.Rows[0].Map, x.Rows[1].Map = affine.Shift(api.MaxFix, 0), affine.Shift(-api.MaxFix, 0)
			x.Rows = x.Rows[:2]
			x.Focus = 5
		},
		func(x *whole) { x.Rows[1].Look = node.FillOf(4096, 4096, math.MaxUint32) }, func(x *whole) { x.Rows[1].Look = node.FillOf(1, 1, 0) }, func(x *whole) { x.Rows[1].Look = node.ImageOf(noise.Image(noise.Numbers(1), 256, 256)) },
		func(x *whole) { x.Focus, x.Focused = 0, false }, func(x *whole) { x.Focus = 0 }, func(x *whole) { x.Focus = 2 }, func(x *whole) { x.Clean = true }, func(x *whole) { x.X, x.Y = 5, 3 }, func(x *whole) { x.X, x.Y = 0, 0 },
		func(x *whole) { x.Keys, x.Sum = math.MaxUint32, math.MaxUint32 }, func(x *whole) { x.Time, x.Drawn = math.MaxUint64, math.MaxUint64 }, func(x *whole) { x.Draws, x.Frames = math.MaxInt, math.MaxInt }, func(x *whole) { x.Draws, x.Frames = 0, 0 },
	}
}

func wrongChanges() []func(x *whole) {
	return append(wrongScenes(), wrongFacts()...)
}

func wrongScenes() []func(x *whole) {
	l := []func(x *whole){
		func(x *whole) { x.Nodes = 4 }, func(x *whole) { x.Nodes = 1 }, func(x *whole) { x.Rows = nil }, func(x *whole) { x.Rows, x.Focus, x.Focused = nil, 0, false }, func(x *whole) { x.Rows = x.Rows[1:] },
		func(x *whole) { x.Rows[0].Id = 1 }, func(x *whole) { x.Rows[0].Depth = 1 }, func(x *whole) { x.Rows = slices.Insert(x.Rows, 0, row{Map: affine.One()}) }, func(x *whole) { x.Rows[4].Id = 0 }, func(x *whole) { x.Rows[4].Id, x.Rows[4].Depth = 0, 0 }, func(x *whole) { x.Rows[4].Depth = 0 }, func(x *whole) { x.Rows[1].Depth = 0 },
		func(x *whole) { x.Rows[4].Id = 5 }, func(x *whole) { x.Rows[4].Id = 7 }, func(x *whole) { x.Rows[3].Id = 7 }, func(x *whole) { x.Rows[1].Depth = 2 }, func(x *whole) { x.Rows[4].Depth = 4 }, func(x *whole) { x.Rows[2].Depth = 3 },
		func(x *whole) { x.Rows[1].Map = affine.Shift(api.MaxFix, 0) }, func(x *whole) { x.Rows[0].Map = affine.Shift(api.MaxFix, 0) }, func(x *whole) { x.Rows[2].Map = affine.Shift(api.MaxFix-api.One, 0) }, func(x *whole) { x.Rows[0].Map, x.Rows[4].Map = affine.Scale(api.MaxFix, 0), affine.Scale(2*api.One, 0) },
		func(x *whole) { x.Rows[0].Opacity = 256 }, func(x *whole) { x.Rows[3].Opacity = -1 }, func(x *whole) { x.Rows[3].Opacity = 1<<32 + 1 }, func(x *whole) { x.Rows[2].Clip.X1 = 1 }, func(x *whole) { x.Rows[3].Clipped = false }, func(x *whole) { x.Rows[3].Clip.X0 = -16385 }, func(x *whole) { x.Rows[3].Clip.Y0 = 16385 }, func(x *whole) { x.Rows[3].Clip.X1 = 1 << 32 }, func(x *whole) { x.Rows[3].Clip.Y1 = math.MinInt },
		func(x *whole) { x.Rows[1].Look.Kind = 3 }, func(x *whole) { x.Rows[1].Look.Kind = 255 }, func(x *whole) { x.Rows[1].Look.W = 1 }, func(x *whole) { x.Rows[1].Look.Color = 1 }, func(x *whole) { x.Rows[1].Look.Image.H = 1 }, func(x *whole) { x.Rows[1].Look.Image.Pixels = []pixel.Pixel{0} },
		func(x *whole) { x.Rows[2].Look.W = 0 }, func(x *whole) { x.Rows[2].Look.H = 4097 }, func(x *whole) { x.Rows[2].Look.Color = 0x100 }, func(x *whole) { x.Rows[2].Look.Kind = 0 }, func(x *whole) { x.Rows[2].Look.Kind = 2 }, func(x *whole) { x.Rows[2].Look.Image.W = -1 },
		func(x *whole) { x.Rows[4].Look.W = 1 }, func(x *whole) { x.Rows[4].Look.Image.W = 1 }, func(x *whole) { x.Rows[4].Look.Image.W = 3 }, func(x *whole) { x.Rows[4].Look.Image.Pixels = nil }, func(x *whole) { x.Rows[4].Look.Image.Pixels[1] = 0x8000007f }, func(x *whole) { x.Rows[4].Look.Image = noise.Image(noise.Numbers(1), 257, 1) }, func(x *whole) { x.Rows[4].Look.Kind = 1 },
	}
	for _, n := range []uint64{0, 4097, 1 << 32, 1<<32 + 6, 1 << 63, math.MaxUint64} {
		l = append(l, func(x *whole) { x.W = n }, func(x *whole) { x.H = n })
	}
	for _, n := range []uint64{0, 65537, 1 << 32, 1<<32 + 8, 1 << 63, math.MaxUint64} {
		l = append(l, func(x *whole) { x.Nodes = n })
	}
	for _, n := range []uint64{65536, 65537, 1 << 32, 1<<32 + 1, 1<<32 + 2, 1 << 63, 1<<63 + 1, math.MaxUint64} {
		l = append(l, func(x *whole) { x.Rows[4].Id = n }, func(x *whole) { x.Rows[4].Depth = n }, func(x *whole) { x.Rows[0].Id = n }, func(x *whole) { x.Rows[0].Depth = n })
	}
	for _, n := range []int64{api.MaxFix + 1, -api.MaxFix - 1, 1 << 32, math.MaxInt64, math.MinInt64} {
		l = append(l, func(x *whole) { x.Rows[4].Map.A = n }, func(x *whole) { x.Rows[4].Map.B = n }, func(x *whole) { x.Rows[4].Map.C = n }, func(x *whole) { x.Rows[0].Map.D = n }, func(x *whole) { x.Rows[1].Map.E = n }, func(x *whole) { x.Rows[2].Map.F = n })
	}
	return l
}

func wrongFacts() []func(x *whole) {
	l := []func(x *whole){
		func(x *whole) { x.X = 6 }, func(x *whole) { x.Y = 4 }, func(x *whole) { x.X, x.Y = 4, 5 }, func(x *whole) { x.W = 3 }, func(x *whole) { x.H = 2 },
		func(x *whole) { x.Focus = 1 }, func(x *whole) { x.Focused = false }, func(x *whole) { x.Focus, x.Focused = 1, false }, func(x *whole) { x.Rows = x.Rows[:2] },
	}
	for _, n := range []int{-1, 1 << 32, 1<<32 + 1, math.MaxInt, math.MinInt} {
		l = append(l, func(x *whole) { x.X = n }, func(x *whole) { x.Y = n })
	}
	for _, n := range []uint64{8, 65536, 1 << 32, 1<<32 + 7, 1 << 63, 1<<63 + 7, math.MaxUint64} {
		l = append(l, func(x *whole) { x.Focus = n }, func(x *whole) { x.Focus, x.Focused = n, false })
	}
	for _, n := range []uint64{1 << 63, 1<<63 + 9, math.MaxUint64} {
		l = append(l, func(x *whole) { x.Draws = n }, func(x *whole) { x.Frames = n })
	}
	return l
}

// P21.2: sums and colours have 32 bits: one more isn't read, whatever the others say.
func TestGetStateOfGreatSums(t *testing.T) {
	most, more := []byte("\xff\xff\xff\xff\x0f"), []byte("\x80\x80\x80\x80\x10")
	x := sample()
	x.Keys, x.Sum, x.Rows[2].Look.Color = math.MaxUint32, math.MaxUint32, math.MaxUint32
	b := bytesOf(x)
	if bytes.Count(b, most) != 3 || readState(t, b) == nil {
		t.Fatalf("%x", b)
	}
	for k := range b {
		if bytes.HasPrefix(b[k:], most) {
			if other := slices.Concat(b[:k], more, b[k+len(more):]); readState(t, other) != nil {
				t.Errorf("GetState %x", other)
			}
		}
	}
}

// P21.2: rows of five nodes of all depths up to five: those that a walk has are read, and lie as it says, and no others are.
func TestGetStateOfWalks(t *testing.T) {
	right := 0
	for n := range 6 * 6 * 6 * 6 {
		x := whole{W: 1, H: 1, Nodes: 5}
		for k, depth := range []int{0, n % 6, n / 6 % 6, n / 36 % 6, n / 216} {
			x.Rows = append(x.Rows, row{Id: uint64(k * 7 % 5), Depth: uint64(depth), Map: affine.One()})
		}
		if s := readState(t, bytesOf(x)); s != nil {
			right++
		}
	}
	// So many ordered trees there are of five nodes.
	if right != 14 {
		t.Errorf("%d walks", right)
	}
}

// P21.2: as many nodes as there may be, one in the other, or side by side, or as a comb.
func TestStateOfMany(t *testing.T) {
	for k, parent := range []func(id int) int{func(id int) int { return id - 1 }, func(int) int { return 0 }, func(id int) int { return id / 2 * 2 * (id % 2) }} {
		s, _ := state.New(2, 2, api.MaxNodes)
		kids := map[int]int{}
		for id := 1; id < api.MaxNodes; {
			var l []scene.Op
			for ; id < api.MaxNodes && len(l) < 1000; id++ {
				p := parent(id)
				l = append(l, scene.Op{Kind: scene.Create, Id: id, Parent: p, Place: kids[p]})
				kids[p]++
			}
			s.Do(event.Of(l...))
		}
		s.Do(event.Of(scene.Op{Kind: scene.SetLook, Id: 65535, Look: node.FillOf(1, 1, 0xff)}))
		s.Do(event.At(0, 0))
		s.Do(event.Number(event.Tick, 0))
		b := pack.State(s)
		c, e := pack.GetState(b)
		if e != api.OK || !state.Equal(s, c) || c.Facts().Focus != 65535 || !image.Equal(s.Image(), c.Image()) || !bytes.Equal(pack.State(c), b) {
			t.Errorf("%d: %d", k, e)
		}
		// One node more, or less room.
		for _, x := range []string{"\x02\x02\x80\x80\x04\x81\x80\x04", "\x02\x02\xff\xff\x03\x80\x80\x04"} {
			if c, e := pack.GetState(append([]byte(x), b[8:]...)); c != nil || e == api.OK {
				t.Errorf("%d: %x", k, x)
			}
		}
	}
}

// P21.2: bytes of states that are cut, or have a byte more, less, or another one, at each place.
func TestGetStateOfAltered(t *testing.T) {
	right, wrong := 0, 0
	count := func(b []byte) {
		if readState(t, b) != nil {
			right++
		} else {
			wrong++
		}
	}
	clean := sample()
	clean.Clean = true
	for _, b := range altered(bytesOf(clean), allBytes()) {
		count(b)
	}
	for seed := range uint64(6) {
		next := noise.Numbers(900 + seed)
		z := scenery.Scene(next, 5, 4, 5)
		s, _ := state.Of(z, arrivals.Facts(next, z))
		for _, b := range altered(pack.State(s), someBytes()) {
			count(b)
		}
	}
	if min(right, wrong) < 5000 {
		t.Errorf("%d right, %d wrong", right, wrong)
	}
}

// P21.2: short rows of bytes, rows without a pattern, and such as tell of far more nodes than stand behind.
func TestGetStateOfOthers(t *testing.T) {
	for n := range 1 << 16 {
		readState(t, []byte{byte(n), byte(n >> 8)})
	}
	for n := range 400 {
		b := noise.Bytes(n)
		readState(t, b)
		if n > 6 {
			copy(b, "\x05\x05\x09\x03\x00\x00"+plainRow)
			readState(t, b)
		}
	}
	for _, n := range []uint64{0, 2, 3, 9, 10, 65536, 65537, 1 << 32, 1<<32 + 1, 1 << 63, math.MaxUint64} {
		for _, tail := range []string{"", "\x00", "\x00\x00" + plainRow, "\x00\x00" + plainRow + "\x01\x01"} {
			if b := slices.Concat([]byte("\x05\x05\x09"), number(n), []byte(tail)); readState(t, b) != nil {
				t.Errorf("GetState %x", b)
			}
		}
	}
}

// The rule of memory: what State tells is new, and the state stays its own; what GetState is handed isn't kept, and two answers go their own ways.
func TestStateMemory(t *testing.T) {
	l := append(bytesOf(sample()), 1, 2, 3)
	b := l[:len(l)-3]
	s, _ := pack.GetState(b)
	c, _ := pack.GetState(b)
	was := slices.Clone(b)
	if !bytes.Equal(l[len(b):], []byte{1, 2, 3}) {
		t.Error("spare room is changed")
	}
	spoil(l)
	x, y := pack.State(s), pack.State(s)
	spoil(x)
	if !bytes.Equal(y, was) || !state.Equal(s, c) {
		t.Error("what was told is shared")
	}
	s.Do(event.Of(scene.Op{Kind: scene.Delete, Id: 5}, look(node.FillOf(1, 1, 1))))
	s.Do(event.Number(event.Tick, 0))
	if !bytes.Equal(pack.State(c), was) || !bytes.Equal(y, was) {
		t.Error("two states are shared")
	}
	writtenState(t, s)
}

// P1: counts behind the greatest number, of which nothing is promised: no call panics.
func TestGreatestCounts(t *testing.T) {
	s, _ := state.Of(scenery.Of(2, 2), state.Facts{Draws: math.MaxInt, Frames: math.MaxInt})
	state.Fold(s, event.Number(event.Draw, 0), event.Number(event.Tick, 0))
	pack.GetState(pack.State(s))
}
