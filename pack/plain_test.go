package pack_test

import (
	"bytes"
	"math"
	"math/big"
	"reflect"
	"slices"
	"strings"
	"testing"

	"mutoscope/affine"
	"mutoscope/api"
	"mutoscope/arrivals"
	"mutoscope/event"
	"mutoscope/image"
	"mutoscope/node"
	"mutoscope/pack"
	"mutoscope/pixel"
	"mutoscope/raster"
	"mutoscope/rect"
	"mutoscope/scene"
	"mutoscope/state"
)

// whole is a state by the chapter's words: all that its bytes are of, in their order. What has a sign is an int, and other numbers aren't.
type whole struct {
	W, H, Nodes    uint64
	Rows           []row
	Focus          uint64
	Focused, Clean bool
	X, Y           int
	Keys, Sum      uint32
	Time, Drawn    uint64
	Draws, Frames  uint64
}

type row struct {
	Id, Depth       uint64
	Map             affine.Map
	Opacity         int
	Hidden, Clipped bool
	Clip            rect.Rect
	Look            node.Look
}

// named is the fields of which v's bytes are, in their order.
func named(v reflect.Value) []string {
	switch x := v.Interface().(type) {
	case event.Event:
		return strings.Fields("Kind " + map[int]string{1: "Ops", 2: "X Y", 3: "N", 4: "N", 5: "N"}[x.Kind])
	case scene.Op:
		return strings.Fields("Kind " + map[int]string{1: "Id Parent Place", 2: "Id", 3: "Id Parent Place", 4: "Id Map", 5: "Id On Clip", 6: "Id N", 7: "Id Look", 8: "Id On"}[x.Kind])
	}
	var l []string
	for k := range v.NumField() {
		l = append(l, v.Type().Field(k).Name)
	}
	return l
}

// bytesOf is the bytes of an event, or of a whole.
func bytesOf(x any) []byte {
	return put(nil, reflect.ValueOf(x))
}

// put is b, and v's bytes behind it.
func put(b []byte, v reflect.Value) []byte {
	switch {
	case v.Kind() == reflect.Struct:
		for _, name := range named(v) {
			if f := v.FieldByName(name); name == "Kind" {
				b = append(b, byte(f.Int()))
			} else {
				b = put(b, f)
			}
		}
	case v.Kind() == reflect.Slice:
		b = append(b, number(uint64(v.Len()))...)
		for k := range v.Len() {
			b = put(b, v.Index(k))
		}
	case v.Kind() == reflect.Bool && v.Bool():
		b = append(b, 1)
	case v.Kind() == reflect.Bool:
		b = append(b, 0)
	case v.CanInt():
		b = append(b, number(uint64(v.Int()<<1^v.Int()>>63))...)
	default:
		b = append(b, number(v.Uint())...)
	}
	return b
}

// number is a number's bytes, the lowest seven bits first.
func number(n uint64) []byte {
	if n < 128 {
		return []byte{byte(n)}
	}
	return append([]byte{byte(n) | 128}, number(n>>7)...)
}

// in is bytes that are read; wrong ones are those of nothing.
type in struct {
	left  []byte
	wrong bool
}

// of is the event, or the whole, of which b are the bytes, and whether there is one.
func of[T any](b []byte) (x T, ok bool) {
	i := in{left: b}
	i.get(reflect.ValueOf(&x).Elem())
	return x, !i.wrong && len(i.left) == 0
}

func (i *in) fail() { i.left, i.wrong = nil, true }

func (i *in) get(v reflect.Value) {
	switch {
	case v.Kind() == reflect.Struct:
		if f := v.FieldByName("Kind"); f.IsValid() {
			f.SetInt(int64(i.byte()))
		}
		for _, name := range named(v) {
			if name != "Kind" {
				i.get(v.FieldByName(name))
			}
		}
	case v.Kind() == reflect.Slice:
		n := i.number()
		if n > most(v) {
			i.fail()
		}
		for k := 0; uint64(k) < n && !i.wrong; k++ {
			v.Set(reflect.Append(v, reflect.Zero(v.Type().Elem())))
			i.get(v.Index(k))
		}
	case v.Kind() == reflect.Bool:
		b := i.byte()
		if b > 1 {
			i.fail()
		}
		v.SetBool(b == 1)
	case v.CanInt():
		n := i.number()
		v.SetInt(int64(n>>1) ^ -int64(n&1))
	default:
		n := i.number()
		if v.OverflowUint(n) {
			i.fail()
		}
		v.SetUint(n)
	}
}

// most is how many things may be in a list that is read.
func most(v reflect.Value) uint64 {
	if _, ops := v.Interface().([]scene.Op); ops {
		return 1024
	}
	return 65536
}

func (i *in) byte() byte {
	if len(i.left) == 0 {
		i.fail()
		return 0
	}
	b := i.left[0]
	i.left = i.left[1:]
	return b
}

// number reads a number: it has the fewest bytes, and is below 2^64.
func (i *in) number() uint64 {
	size := 1 + slices.IndexFunc(i.left, func(b byte) bool { return b < 128 })
	n := new(big.Int)
	for _, b := range slices.Backward(i.left[:size]) {
		n.Or(n.Lsh(n, 7), big.NewInt(int64(b%128)))
	}
	if size == 0 || !n.IsUint64() || !bytes.Equal(number(n.Uint64()), i.left[:size]) {
		i.fail()
		return 0
	}
	i.left = i.left[size:]
	return n.Uint64()
}

// wholeOf is all that s tells.
func wholeOf(s *state.State) whole {
	z, f := s.Scene(), s.Facts()
	w, h, nodes := z.Size()
	x := whole{
		W: uint64(w), H: uint64(h), Nodes: uint64(nodes), Focus: uint64(f.Focus), Focused: f.Focused, Clean: f.Clean, X: f.X, Y: f.Y,
		Keys: f.Keys, Sum: f.Sum, Time: f.Time, Drawn: f.Drawn, Draws: uint64(f.Draws), Frames: uint64(f.Frames),
	}
	for id, depth := range z.Walk() {
		n, _ := z.Node(id)
		x.Rows = append(x.Rows, row{uint64(id), uint64(depth), n.Map, n.Opacity, n.Hidden, n.Clipped, n.Clip, n.Look})
	}
	return x
}

// right is whether there is a state of which x is all.
func (x whole) right() bool {
	if min(x.W, x.H, x.Nodes) < 1 || max(x.W, x.H) > 4096 || x.Nodes > 65536 || len(x.Rows) < 1 || uint64(len(x.Rows)) > x.Nodes {
		return false
	}
	ids, worlds := map[uint64]bool{}, []affine.Map{}
	for k, r := range x.Rows {
		n := node.Node{Map: r.Map, Opacity: r.Opacity, Hidden: r.Hidden, Clipped: r.Clipped, Clip: r.Clip, Look: r.Look}
		if ids[r.Id] || r.Id > 65535 || (k == 0) != (r.Id == 0) || (k == 0) != (r.Depth == 0) || r.Depth > uint64(len(worlds)) || n.Check() != api.OK {
			return false
		}
		worlds = worlds[:r.Depth]
		w, e := n.Map.Then(worlds[max(1, len(worlds))-1:]...)
		if e != api.OK {
			return false
		}
		ids[r.Id], worlds = true, append(worlds, w)
	}
	return x.factsRight(ids)
}

func (x whole) factsRight(ids map[uint64]bool) bool {
	if x.X < 0 || x.Y < 0 || uint64(x.X) >= x.W || uint64(x.Y) >= x.H || max(x.Draws, x.Frames) > math.MaxInt {
		return false
	}
	return x.Focused && ids[x.Focus] || !x.Focused && x.Focus == 0
}

// written holds Event of e against the chapter's words, and GetEvent of its bytes.
func written(t *testing.T, e event.Event) []byte {
	t.Helper()
	was, plain := arrivals.Copy(e), e.Plain()
	b, code := pack.Event(e)
	if !event.Equal(e, was) {
		t.Fatalf("%v was %v", e, was)
	}
	if !hasBytes(plain) {
		if len(b) != 0 || code != api.ErrForm {
			t.Fatalf("Event %v: %x, %d", e, b, code)
		}
		return nil
	}
	if want := bytesOf(plain); !bytes.Equal(b, want) || code != api.OK {
		t.Fatalf("Event %v: %x, %d, not %x", e, b, code, want)
	}
	if got, ok := read(t, b); ok && !event.Equal(got, plain) {
		t.Fatalf("GetEvent %x: %v, not %v", b, got, plain)
	}
	return b
}

// hasBytes is whether all Kinds of a plain event are bytes.
func hasBytes(e event.Event) bool {
	l := []int{e.Kind}
	for _, o := range e.Ops {
		l = append(l, o.Kind, o.Look.Kind)
	}
	return slices.Min(l) >= 0 && slices.Max(l) <= 255
}

// read holds GetEvent of b against the chapter's words: what it tells, and whether there is an event.
func read(t *testing.T, b []byte) (event.Event, bool) {
	t.Helper()
	was := slices.Clone(b)
	want, ok := of[event.Event](b)
	if !ok {
		want = event.Event{}
	}
	e, code := pack.GetEvent(b)
	if !bytes.Equal(b, was) {
		t.Fatalf("%x was %x", b, was)
	}
	if ok != (code == api.OK) || !event.Equal(e, want) {
		t.Fatalf("GetEvent %x: %v, %d, not %v, %v", b, e, code, want, ok)
	}
	if !ok {
		return e, false
	}
	if again, code := pack.Event(e); !bytes.Equal(again, b) || code != api.OK || !event.Equal(e, e.Plain()) {
		t.Fatalf("Event of GetEvent %x: %x, %d", b, again, code)
	}
	return e, true
}

// writtenState holds State of s against the chapter's words, and GetState of its bytes.
func writtenState(t *testing.T, s *state.State) (b []byte, again *state.State) {
	t.Helper()
	was, m := s.Copy(), s.Image()
	b = pack.State(s)
	if want := bytesOf(wholeOf(s)); !bytes.Equal(b, want) {
		t.Fatalf("State: %x, not %x", b, want)
	}
	again = readState(t, b)
	if again == nil || !state.Equal(s, again) || !state.Equal(again, s) {
		t.Fatalf("GetState %x: another one", b)
	}
	if !state.Equal(s, was) || !image.Equal(s.Image(), m) {
		t.Fatal("the state isn't what it was")
	}
	return b, again
}

// readState holds GetState of b against the chapter's words.
func readState(t *testing.T, b []byte) *state.State {
	t.Helper()
	was := slices.Clone(b)
	x, ok := of[whole](b)
	ok = ok && x.right()
	s, code := pack.GetState(b)
	if !bytes.Equal(b, was) {
		t.Fatalf("%x was %x", b, was)
	}
	if ok != (code == api.OK) || ok != (s != nil) {
		t.Fatalf("GetState %x: %d, %v", b, code, ok)
	}
	if !ok {
		return nil
	}
	if got := bytesOf(wholeOf(s)); !bytes.Equal(got, b) {
		t.Fatalf("GetState %x: a state of %x", b, got)
	}
	if again := pack.State(s); !bytes.Equal(again, b) {
		t.Fatalf("State of GetState %x: %x", b, again)
	}
	want := image.Image{W: int(x.W), H: int(x.H), Pixels: make([]pixel.Pixel, x.W*x.H)}
	if x.Clean {
		want = raster.Pix(s.Scene())
	}
	if !image.Equal(s.Image(), want) {
		t.Fatalf("GetState %x: it shows %08x, not %08x", b, s.Image().Pixels, want.Pixels)
	}
	return s
}

// altered is b cut at each place, with each byte left out, doubled, and put in another one's place, each of these in turn.
func altered(b []byte, bytes []byte) [][]byte {
	var l [][]byte
	for k := range b {
		l = append(l, b[:k:k], slices.Concat(b[:k], b[k+1:]), slices.Concat(b[:k+1], b[k:]))
		for _, x := range bytes {
			other := slices.Clone(b)
			other[k] = x
			l = append(l, other, slices.Concat(b[:k], []byte{x}, b[k:]))
		}
	}
	for _, x := range bytes {
		l = append(l, append(slices.Clone(b), x))
	}
	return l
}

// allBytes is all 256, someBytes those about the bounds of numbers' bytes, bools, and Kinds.
func allBytes() []byte {
	var l []byte
	for k := range 256 {
		l = append(l, byte(k))
	}
	return l
}

func someBytes() []byte { return []byte{0, 1, 2, 3, 8, 9, 126, 127, 128, 129, 254, 255} }
