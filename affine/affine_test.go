package affine_test

import (
	"math"
	"slices"
	"testing"

	"mutoscope/affine"
	"mutoscope/api"
	"mutoscope/noise"
)

// The calls and types that the chapter lists, by their signatures.
var (
	_ func() affine.Map                                           = affine.One
	_ func(m affine.Map) bool                                     = affine.Map.Right
	_ func(m affine.Map, p affine.Point) (affine.Point, bool)     = affine.Map.Take
	_ func(m affine.Map, l ...affine.Map) (affine.Map, api.Errno) = affine.Map.Then
	_ func(m affine.Map) (affine.Back, api.Errno)                 = affine.Map.Back
	_ func(b affine.Back, p affine.Point) affine.Point            = affine.Back.Take
	_ func(x, y int64) affine.Map                                 = affine.Shift
	_ func(x, y int64) affine.Map                                 = affine.Scale
	_ func(quarters int) affine.Map                               = affine.Turn
	_ struct{ A, B, C, D, E, F int64 }                            = affine.Map{}
	_ struct{ X, Y int64 }                                        = affine.Point{}
)

// P8.1, P8.2: the chapter's example.
func TestExample(t *testing.T) {
	m, e := affine.Scale(2*one, 2*one).Then(affine.Shift(one, 0))
	if p, ok := m.Take(affine.Point{X: 3 * one, Y: 4 * one}); e != api.OK || !ok || p != (affine.Point{X: 7 * one, Y: 8 * one}) {
		t.Errorf("Take: %v, %v, %d", p, ok, e)
	}
	b, e := m.Back()
	if p := b.Take(affine.Point{X: 7 * one, Y: 8 * one}); e != api.OK || p != (affine.Point{X: 3 * one, Y: 4 * one}) {
		t.Errorf("Take of its way back: %v, %d", p, e)
	}
}

// edges is right numbers, those at the bounds among them, and wrongOnes such as are not.
func edges() []int64 {
	return []int64{0, 1, -1, 2, -2, 3, one / 2, -one / 2, one/2 + 1, one - 1, one, -one, one + 1, 3 * one / 2, -3 * one / 2, 5 * one, 1 << 29, -1 << 29, maxFix - 1, maxFix, 1 - maxFix, -maxFix}
}

func wrongOnes() []int64 {
	return []int64{maxFix + 1, -maxFix - 1, 1 << 31, -1 << 31, 1 << 32, 1<<32 + 1, -1 << 32, 1 << 48, 1 << 62, -1 << 62, math.MaxInt64, math.MinInt64, math.MinInt64 + 1}
}

// some tells numbers from -most to most, as often small as great ones; half of them stand for whole numbers, or ones and a half.
func some(seed uint64) func(most int64) int64 {
	next := noise.Numbers(seed)
	return func(most int64) int64 {
		x := int64(next()>>1>>(next()%63)) % (most + 1)
		if next()%2 == 0 {
			x = x / (one / 2) * (one / 2)
		}
		if next()%2 == 0 {
			return -x
		}
		return x
	}
}

// someMap is a map of such numbers.
func someMap(next func(most int64) int64, most int64) affine.Map {
	return affine.Map{A: next(most), B: next(most), C: next(most), D: next(most), E: next(most), F: next(most)}
}

func somePoint(next func(most int64) int64, most int64) affine.Point {
	return affine.Point{X: next(most), Y: next(most)}
}

// P8.1: One, Shift and Scale take points where the chapter says, and are just these numbers, whatever they are given.
func TestMaps(t *testing.T) {
	next := some(1)
	for range 2000 {
		p, by := somePoint(next, 1<<28), somePoint(next, 1<<28)
		if q, ok := affine.One().Take(p); q != p || !ok {
			t.Fatalf("One Take(%v): %v", p, q)
		}
		if q, ok := affine.Shift(by.X, by.Y).Take(p); q != (affine.Point{X: p.X + by.X, Y: p.Y + by.Y}) || !ok {
			t.Fatalf("Shift(%v) Take(%v): %v", by, p, q)
		}
		x, y := by.X%4, by.Y%4
		if q, ok := affine.Scale(x*one, y*one).Take(p); q != (affine.Point{X: p.X * x, Y: p.Y * y}) || !ok {
			t.Fatalf("Scale(%d, %d) Take(%v): %v", x, y, p, q)
		}
	}
	for _, x := range append(edges(), wrongOnes()...) {
		for _, y := range append(edges(), wrongOnes()...) {
			if affine.Shift(x, y) != (affine.Map{A: one, D: one, E: x, F: y}) || affine.Scale(x, y) != (affine.Map{A: x, D: y}) {
				t.Fatalf("Shift(%d, %d): %v, Scale: %v", x, y, affine.Shift(x, y), affine.Scale(x, y))
			}
		}
	}
	if affine.One() != (affine.Map{A: one, D: one}) {
		t.Errorf("One: %v", affine.One())
	}
}

// P8.1: Turn is one of four maps, by what is left of its quarters by four, of those below 0, too.
func TestTurn(t *testing.T) {
	p := affine.Point{X: 3 * one, Y: one / 2}
	want := []affine.Point{p, {X: -p.Y, Y: p.X}, {X: -p.X, Y: -p.Y}, {X: p.Y, Y: -p.X}}
	for quarters := -400; quarters < 400; quarters++ {
		k := (quarters + 400) % 4
		if q, ok := affine.Turn(quarters).Take(p); q != want[k] || !ok || !affine.Turn(quarters).Right() {
			t.Fatalf("Turn(%d): %v", quarters, q)
		}
	}
	if q, _ := affine.Turn(1).Take(affine.Point{X: one}); q != (affine.Point{Y: one}) {
		t.Errorf("Turn(1) takes 1, 0 to %v", q)
	}
	for quarters, k := range map[int]int{math.MaxInt: 3, math.MaxInt - 1: 2, math.MinInt: 0, math.MinInt + 1: 1, math.MinInt + 3: 3, 1 << 32: 0, -1<<32 - 1: 3} {
		if affine.Turn(quarters) != affine.Turn(k) {
			t.Errorf("Turn(%d): %v", quarters, affine.Turn(quarters))
		}
	}
}

// P8.1: Right of maps whose numbers are at the bounds, and past them, at each place.
func TestRight(t *testing.T) {
	for _, x := range edges() {
		if !mapOf([6]int64{x, x, x, x, x, x}).Right() || !mapOf([6]int64{x, -x, 0, 1, -1, x}).Right() {
			t.Errorf("Right of %d", x)
		}
	}
	for _, x := range wrongOnes() {
		for place := range 6 {
			var l [6]int64
			l[place] = x
			if mapOf(l).Right() {
				t.Errorf("Right of %d", l)
			}
		}
	}
}

// P8.1: Take, held against the chapter's words.
func TestTake(t *testing.T) {
	next := some(2)
	for range 20000 {
		take(t, someMap(next, maxFix), somePoint(next, maxFix))
		take(t, someMap(next, 9*one), somePoint(next, 4096*one))
		take(t, someMap(next, maxFix+2), somePoint(next, maxFix+2))
	}
	for _, x := range edges() {
		for _, y := range edges() {
			take(t, affine.Map{A: x, B: -y, C: y, D: x, E: y, F: 1}, affine.Point{X: y, Y: x})
			take(t, affine.Map{A: one, D: one, E: x, F: y}, affine.Point{X: y, Y: x})
		}
	}
}

// P8.1: Take rounds once, behind all is added, halves to the greater one.
func TestTakeRounds(t *testing.T) {
	for _, c := range []struct {
		m    affine.Map
		want affine.Point
	}{
		{affine.Map{A: one / 2, D: one / 2}, affine.Point{X: 1, Y: 0}},
		{affine.Map{A: one / 2, C: -one / 2, B: one / 4, D: -one / 4}, affine.Point{X: 1, Y: 1}},
		{affine.Map{A: one/2 - 1, D: one/2 + 1}, affine.Point{X: 0, Y: -1}},
		{affine.Map{A: one / 2, D: one / 2, E: 7, F: -7}, affine.Point{X: 8, Y: -7}},
	} {
		p := affine.Point{X: 1, Y: -1}
		if q, ok := c.m.Take(p); q != c.want || !ok {
			t.Errorf("%v Take(%v): %v, %v, not %v", c.m, p, q, ok, c.want)
		}
		take(t, c.m, p)
	}
}

// P8.1: a point that is just right, and one that just isn't, in one of its numbers alone.
func TestTakeAtTheBounds(t *testing.T) {
	for _, c := range []struct {
		m  affine.Map
		p  affine.Point
		ok bool
	}{
		{affine.Shift(1, 0), affine.Point{X: maxFix - 1}, true},
		{affine.Shift(1, 0), affine.Point{X: maxFix}, false},
		{affine.Shift(0, 1), affine.Point{Y: maxFix - 1}, true},
		{affine.Shift(0, 1), affine.Point{Y: maxFix}, false},
		{affine.Shift(-1, 0), affine.Point{X: -maxFix}, false},
		{affine.Shift(0, -1), affine.Point{Y: -maxFix}, false},
		{affine.Shift(-maxFix, maxFix), affine.Point{X: maxFix, Y: -maxFix}, true},
		{affine.Scale(maxFix, one), affine.Point{X: one, Y: maxFix}, true},
		{affine.Scale(maxFix, one), affine.Point{X: one + 1, Y: maxFix}, false},
		{affine.Scale(one, maxFix), affine.Point{X: maxFix, Y: -one - 1}, false},
		{affine.One(), affine.Point{X: maxFix + 1}, false},
		{affine.Scale(0, 0), affine.Point{Y: -maxFix - 1}, false},
	} {
		q, ok := c.m.Take(c.p)
		if ok != c.ok || !ok && q != (affine.Point{}) {
			t.Errorf("%v Take(%v): %v, %v", c.m, c.p, q, ok)
		}
		take(t, c.m, c.p)
	}
	for _, x := range wrongOnes() {
		for place := range 6 {
			var l [6]int64
			l[place] = x
			take(t, mapOf(l), affine.Point{})
		}
		take(t, affine.Map{}, affine.Point{X: x})
		take(t, affine.Map{}, affine.Point{Y: x})
	}
}

// P8.2: Then of none, one, and more, held against the chapter's words.
func TestThen(t *testing.T) {
	next := some(3)
	for k := range 30000 {
		most := []int64{4 * one, 100 * one, maxFix, maxFix + 1}[k%4]
		l := make([]affine.Map, k/4%5)
		for place := range l {
			l[place] = someMap(next, most)
		}
		then(t, someMap(next, most), l...)
	}
	for _, x := range edges() {
		for _, y := range edges() {
			then(t, affine.Map{A: x, B: y, C: -y, D: x, E: y, F: x}, affine.Map{A: y, B: one, C: one, D: x, E: -x, F: y})
			then(t, affine.Scale(x, y), affine.Turn(1), affine.Shift(y, x))
		}
	}
}

// P8.2: Then does m first, and then l from the left: of whole numbers it takes a point just where they do, one behind the other.
func TestThenInOrder(t *testing.T) {
	next := noise.Numbers(4)
	whole := func() int64 { return (int64(next()%7) - 3) * one }
	for range 3000 {
		var l [3]affine.Map
		p := affine.Point{X: whole(), Y: whole()}
		want := p
		for k := range l {
			l[k] = affine.Map{A: whole(), B: whole(), C: whole(), D: whole(), E: whole(), F: whole()}
			want, _ = l[k].Take(want)
		}
		all, e := l[0].Then(l[1:]...)
		if got, ok := all.Take(p); got != want || !ok || e != api.OK {
			t.Fatalf("%v Then(%v) takes %v to %v, not %v", l[0], l[1:], p, got, want)
		}
	}
	quarter := affine.Turn(1)
	if m, e := affine.Shift(3*one, 0).Then(quarter, quarter, quarter, quarter); m != affine.Shift(3*one, 0) || e != api.OK {
		t.Errorf("Then of four quarters: %v, %d", m, e)
	}
	many := slices.Repeat([]affine.Map{affine.Shift(1, -1)}, 100000)
	if m, e := affine.One().Then(many...); m != affine.Shift(100000, -100000) || e != api.OK {
		t.Errorf("Then of many: %v, %d", m, e)
	}
}

// P8.2: ErrRange of one at any place, ahead of an ErrOver of those ahead of it.
func TestThenRefuses(t *testing.T) {
	over := affine.Scale(maxFix, maxFix)
	for _, x := range wrongOnes() {
		for place := range 6 {
			var l [6]int64
			l[place] = x
			wrong := mapOf(l)
			for _, row := range [][]affine.Map{{wrong}, {wrong, over}, {over, wrong}, {over, over, wrong}, {over, over, over, over, wrong}} {
				if m, e := row[0].Then(row[1:]...); m != (affine.Map{}) || e != api.ErrRange {
					t.Fatalf("Then of %v: %v, %d", row, m, e)
				}
			}
		}
	}
}

// P8.2: ErrOver of each of the six numbers alone, at its edge, and also where a later map would bring it back.
func TestThenOver(t *testing.T) {
	for place := range 6 {
		for by := range 4 {
			var m, n [6]int64
			m[place], n[by] = one, maxFix
			then(t, mapOf(m), mapOf(n))
			if got, e := mapOf(m).Then(mapOf(n)); e != api.OK {
				t.Errorf("%d Then(%d): %v, %d", m, n, got, e)
			}
			// A, C and E are multiplied by A and B, the others by C and D.
			want := api.OK
			if place%2 == by/2 {
				want = api.ErrOver
			}
			for _, x := range []int64{one + 1, -one - 1} {
				m[place] = x
				for _, l := range [][]affine.Map{{mapOf(n)}, {mapOf(n), affine.Scale(0, 0)}, {affine.One(), mapOf(n), affine.Scale(1, 1)}} {
					if got, e := mapOf(m).Then(l...); e != want || got != (affine.Map{}) {
						t.Errorf("%d Then(%v): %v, %d, not %d", m, l, got, e, want)
					}
				}
			}
		}
	}
	for _, n := range []affine.Map{affine.Shift(1, 0), affine.Shift(0, 1), affine.Shift(-1, 0), affine.Shift(0, -1)} {
		m := affine.Shift(n.E*maxFix, n.F*maxFix)
		if got, e := m.Then(n); got != (affine.Map{}) || e != api.ErrOver {
			t.Errorf("%v Then(%v): %v, %d", m, n, got, e)
		}
		if got, e := m.Then(affine.Scale(-one, -one), n); got != (affine.Map{A: -one, D: -one, E: n.E - n.E*maxFix, F: n.F - n.F*maxFix}) || e != api.OK {
			t.Errorf("%v Then a turn, and %v: %v, %d", m, n, got, e)
		}
	}
}

// P8.2: Back and its Take, held against the chapter's words.
func TestBack(t *testing.T) {
	next := some(5)
	for k := range 60000 {
		most := []int64{4 * one, 300 * one, maxFix, maxFix + 1}[k%4]
		back(t, someMap(next, most), somePoint(next, 1<<31), somePoint(next, 4096*one))
	}
	for _, x := range edges() {
		for _, y := range edges() {
			for _, m := range []affine.Map{{A: x, D: y}, {B: x, C: y}, {A: x, B: y, C: -y, D: x, E: y, F: -x}, {A: x, B: y, C: y, D: x}, {A: one, B: x, C: y, D: one}, {A: x, B: one, C: one, D: y}} {
				back(t, m, affine.Point{X: 1}, affine.Point{Y: -1}, affine.Point{X: -1, Y: 3})
			}
		}
	}
}

// P8.2: Back's errors, in their order, each at its edge.
func TestBackRefuses(t *testing.T) {
	for _, c := range []struct {
		m affine.Map
		e api.Errno
	}{
		{affine.Map{}, api.ErrSingular},
		{affine.Map{E: maxFix, F: -maxFix}, api.ErrSingular},
		{affine.Map{E: maxFix + 1}, api.ErrRange},
		{affine.Map{A: 2 * one, B: 4 * one, C: one, D: 2 * one}, api.ErrSingular},
		{affine.Map{A: maxFix, B: maxFix, C: maxFix, D: maxFix}, api.ErrSingular},
		{affine.Map{A: maxFix, B: -maxFix, C: maxFix, D: -maxFix}, api.ErrSingular},
		{affine.Map{A: maxFix, B: -maxFix, C: maxFix, D: maxFix}, api.OK},
		{affine.Map{A: maxFix, B: maxFix, C: maxFix, D: maxFix - 3}, api.ErrOver},
		{affine.Map{A: maxFix, B: maxFix, C: maxFix, D: maxFix - 4}, api.OK},
		{affine.Map{A: 1, D: 1}, api.ErrOver},
		{affine.Scale(3, one), api.ErrOver},
		{affine.Scale(4, one), api.OK},
		{affine.Scale(-4, one), api.OK},
		{affine.Scale(-3, one), api.ErrOver},
		{affine.Scale(one, 3), api.ErrOver},
		{affine.Scale(one, 4), api.OK},
		{affine.Map{B: 3, C: one}, api.ErrOver},
		{affine.Map{B: 4, C: one}, api.OK},
		{affine.Map{B: one, C: 3}, api.ErrOver},
		{affine.Map{B: one, C: 4}, api.OK},
	} {
		if b, e := c.m.Back(); e != c.e || e != api.OK && b != (affine.Back{}) {
			t.Errorf("%v Back: %v, %d, not %d", c.m, b, e, c.e)
		}
		back(t, c.m)
	}
	for _, x := range wrongOnes() {
		for place := range 6 {
			l := numbers(affine.One())
			l[place] = x
			if b, e := mapOf(l).Back(); b != (affine.Back{}) || e != api.ErrRange {
				t.Errorf("%d Back: %v, %d", l, b, e)
			}
		}
	}
}

// numbersBack is the numbers of m's way back, as its Take of a step of one shows them.
func numbersBack(t *testing.T, m affine.Map) [4]int64 {
	t.Helper()
	b, e := m.Back()
	if e != api.OK {
		t.Errorf("%v Back: %d", m, e)
	}
	x, y := b.Take(affine.Point{X: m.E + one, Y: m.F}), b.Take(affine.Point{X: m.E, Y: m.F + one})
	return [4]int64{x.X, x.Y, y.X, y.Y}
}

// P8.2: the numbers of a way back are rounded, halves to the greater one, whichever sign the determinant has.
func TestBackRounds(t *testing.T) {
	for _, c := range []struct{ by, want int64 }{
		{2 * one, one / 2}, {3 * one, 21845}, {-3 * one, -21845}, {3 * one / 2, 43691}, {-3 * one / 2, -43691}, {1 << 26, 64}, {maxFix, 4}, {-maxFix, -4}, {4, maxFix}, {-4, -maxFix}, {5, 858993459}, {-5, -858993459}, {one + 1, one - 1}, {one - 1, one + 1},
	} {
		if l := numbersBack(t, affine.Scale(c.by, one)); l != [4]int64{c.want, 0, 0, one} {
			t.Errorf("Scale(%d, 1) Back: %d, not %d", c.by, l, c.want)
		}
		if l := numbersBack(t, affine.Map{B: one, C: c.by, E: 7, F: -7}); l != [4]int64{0, c.want, one, 0} {
			t.Errorf("B 1, C %d Back: %d, not %d", c.by, l, c.want)
		}
	}
	// Of a determinant of 2^33 each odd number is some and a half.
	for half, want := range map[int64]int64{1: 1, -1: 0, 3: 2, -3: -1, 5: 3, -5: -2} {
		for _, sign := range []int64{1, -1} {
			for place, m := range []affine.Map{
				{B: 2 * one, C: -sign * one, D: half * sign},
				{A: 2 * one, B: -half * sign, D: sign * one},
				{A: 2 * one, C: -half * sign, D: sign * one},
				{A: half * sign, B: 2 * one, C: -sign * one},
			} {
				if l := numbersBack(t, m); l[place] != want {
					t.Errorf("%v Back: %d, not %d at %d", m, l, want, place)
				}
				back(t, m)
			}
		}
	}
}

// P8.2: a point that is taken back is rounded once, behind both products, halves to the greater one.
func TestTakeBackRounds(t *testing.T) {
	half, e := affine.Scale(2*one, -2*one).Back()
	if p := half.Take(affine.Point{X: 1, Y: 1}); p != (affine.Point{X: 1, Y: 0}) || e != api.OK {
		t.Errorf("Take of 1, 1: %v", p)
	}
	if p := half.Take(affine.Point{X: -1, Y: -3}); p != (affine.Point{X: 0, Y: 2}) {
		t.Errorf("Take of -1, -3: %v", p)
	}
	both, e := affine.Map{A: one, B: one, C: -one, D: one}.Back()
	if p := both.Take(affine.Point{X: 1, Y: 1}); p != (affine.Point{X: 1, Y: 0}) || e != api.OK {
		t.Errorf("Take of 1, 1: %v", p)
	}
	if p := both.Take(affine.Point{X: 1, Y: 0}); p != (affine.Point{X: 1, Y: 0}) {
		t.Errorf("Take of 1, 0: %v", p)
	}
}

// P8.2: the greatest numbers of a way back, and points at their bounds: the products together are above 2^62.
func TestTakeBackAtTheBounds(t *testing.T) {
	const far = 1 << 31
	for _, m := range []affine.Map{{A: 2, B: 2, C: -one, D: one}, {A: one, B: -one, C: 2, D: 2}, {A: 4, D: 4}, {B: 4, C: -4}, {A: 2, B: 2, C: -2, D: 2}} {
		for _, shift := range []int64{-maxFix, 0, maxFix} {
			m.E, m.F = shift, shift
			for _, x := range []int64{-far, 1 - far, -1, 0, 1, far - 1, far} {
				back(t, m, affine.Point{X: x, Y: x}, affine.Point{X: x, Y: -x}, affine.Point{X: x, Y: far}, affine.Point{X: -far, Y: x})
			}
		}
	}
	for _, sign := range []int64{1, -1} {
		b, e := affine.Map{A: 2, B: 2, C: -one, D: one, E: -sign * maxFix, F: -sign * maxFix}.Back()
		if p := b.Take(affine.Point{X: sign * far, Y: sign * far}); p != (affine.Point{X: sign * 6 << 44}) || e != api.OK {
			t.Errorf("Take: %v, %d", p, e)
		}
	}
}

// Maps, points and ways back are held against each other by ==, and the same map has the same way back.
func TestAreCompared(t *testing.T) {
	m := affine.Map{A: 2 * one, B: 1, C: -3, D: one, E: 5, F: -6}
	a, _ := m.Back()
	b, _ := m.Back()
	if a != b || a == (affine.Back{}) {
		t.Errorf("%v, %v", a, b)
	}
	for place := range 6 {
		l := numbers(m)
		l[place] += 100
		if c, e := mapOf(l).Back(); c == a || e != api.OK {
			t.Errorf("%d: the same way back, %d", l, e)
		}
	}
}

// P1: no call panics, or goes on for ever, at numbers of which nothing else is promised.
func TestAllArguments(t *testing.T) {
	next := noise.Numbers(6)
	l := append(wrongOnes(), edges()...)
	one := func() int64 { return l[next()%uint64(len(l))] }
	for range 50000 {
		m := affine.Map{A: one(), B: one(), C: one(), D: one(), E: one(), F: one()}
		p := affine.Point{X: one(), Y: one()}
		take(t, m, p)
		then(t, m, affine.Shift(one(), one()), affine.Scale(one(), one()), affine.Turn(int(one())))
		b, _ := m.Back()
		b.Take(p)
		b, _ = affine.Scale(4, -4).Back()
		b.Take(p)
	}
}
