package rect_test

import (
	"math"
	"math/big"
	"slices"
	"testing"

	"mutoscope/noise"
	"mutoscope/rect"
	"mutoscope/small"
)

// The calls that the chapter lists, by their signatures.
var (
	_ func(x0, y0, x1, y1 int) rect.Rect          = rect.Of
	_ func(r rect.Rect) bool                      = rect.Rect.Empty
	_ func(r rect.Rect, x, y int) bool            = rect.Rect.Has
	_ func(r rect.Rect, l ...rect.Rect) rect.Rect = rect.Rect.Cut
	_ func(r rect.Rect, l ...rect.Rect) rect.Rect = rect.Rect.Join
	_ func(r rect.Rect, n int) rect.Rect          = rect.Rect.Grow
	_ func(r, s rect.Rect) bool                   = rect.Rect.Within
	_ func(r rect.Rect) int                       = rect.Rect.Area
	_ func(r, s rect.Rect) []rect.Rect            = rect.Rect.Less
	_ struct{ X0, Y0, X1, Y1 int }                = rect.Rect{}
)

// most is the bound of the range of all numbers.
const most = 1 << 40

// P6.2: the chapter's example.
func TestExample(t *testing.T) {
	l := rect.Of(0, 0, 4, 4).Less(rect.Of(1, 1, 2, 2))
	want := []rect.Rect{{X0: 0, Y0: 0, X1: 4, Y1: 1}, {X0: 0, Y0: 1, X1: 1, Y1: 2}, {X0: 2, Y0: 1, X1: 4, Y1: 2}, {X0: 0, Y0: 2, X1: 4, Y1: 4}}
	if !slices.Equal(l, want) {
		t.Errorf("Less: %v", l)
	}
}

// P6.1, P6.2: Of, Empty, Has and Area of all small rectangles, turned ones and those of same numbers among them.
func TestAllSmallOnes(t *testing.T) {
	for _, r := range small.Rects(low, high) {
		p := pixelsOf(r)
		if got := rect.Of(r.X0, r.Y0, r.X1, r.Y1); got != p.bound() {
			t.Fatalf("Of(%v): %v", r, got)
		}
		if r.Empty() != (p == 0) || r.Area() != p.count() {
			t.Fatalf("%v: Empty %v, Area %d", r, r.Empty(), r.Area())
		}
		if r.Cut() != p.bound() || r.Join() != p.bound() || r.Cut(nil...) != p.bound() || r.Join(nil...) != p.bound() {
			t.Fatalf("%v: Cut of none %v, Join of none %v", r, r.Cut(), r.Join())
		}
		for y := low; y < high; y++ {
			for x := low; x < high; x++ {
				if r.Has(x, y) != (p&bit(x, y) != 0) {
					t.Fatalf("%v Has(%d, %d): %v", r, x, y, r.Has(x, y))
				}
			}
		}
	}
}

// P6.1, P6.2: Cut, Join, Within and Less of each two small rectangles.
func TestAllPairs(t *testing.T) {
	l := small.Rects(-1, 3)
	for _, r := range l {
		for _, s := range l {
			pair(t, r, s)
		}
	}
}

// P6.1: Cut and Join of three, in each order.
func TestThrees(t *testing.T) {
	next := noise.Numbers(1)
	l := small.Rects(low, high)
	for range 100000 {
		r, s, u := l[next()%uint64(len(l))], l[next()%uint64(len(l))], l[next()%uint64(len(l))]
		all(t, r, s, u)
		all(t, u, r, s)
	}
	l = small.Rects(0, 2)
	for _, r := range l {
		for _, s := range l {
			for _, u := range l {
				all(t, r, s, u)
			}
		}
	}
}

// P6.1: Cut and Join of many; empty ones among them end a Cut, and do nothing to a Join, wherever they stand.
func TestMany(t *testing.T) {
	r := rect.Of(0, 0, 2, 2)
	var l []rect.Rect
	want, both := r, rect.Of(1, 0, 2, 2)
	for k := range 1000 {
		l = append(l, rect.Of(-k, 0, k+2, 3), rect.Of(1, -1, 2, k+2))
		want = rect.Of(-k, -1, k+2, max(3, k+2))
	}
	if got := r.Join(l...); got != want {
		t.Errorf("Join of many: %v, not %v", got, want)
	}
	if got := r.Cut(l...); got != both {
		t.Errorf("Cut of many: %v, not %v", got, both)
	}
	for _, empty := range emptyOnes() {
		for _, place := range []int{0, 1, 1000, 1999, 2000} {
			with := slices.Insert(slices.Clone(l), place, empty)
			if got := r.Join(with...); got != want {
				t.Errorf("Join with %v at %d: %v", empty, place, got)
			}
			if got := r.Cut(with...); got != (rect.Rect{}) {
				t.Errorf("Cut with %v at %d: %v", empty, place, got)
			}
		}
	}
}

// emptyOnes is rectangles that have no pixel, each in another way.
func emptyOnes() []rect.Rect {
	return []rect.Rect{
		{},
		{X0: 1, Y0: 1, X1: 1, Y1: 1},
		{X0: -9, Y0: 5, X1: 9, Y1: 5},
		{X0: 5, Y0: -9, X1: 5, Y1: 9},
		{X0: 9, Y0: -9, X1: -9, Y1: 9},
		{X0: -9, Y0: 9, X1: 9, Y1: -9},
		{X0: 9, Y0: 9, X1: -9, Y1: -9},
		{X0: most, Y0: most, X1: -most, Y1: -most},
		{X0: -most, Y0: most, X1: most, Y1: -most},
		{X0: -most, Y0: 0, X1: most, Y1: 0},
	}
}

// P6.1, P6.2: what is told of empty ones, and of others with them.
func TestEmptyOnes(t *testing.T) {
	some := []rect.Rect{rect.Of(0, 0, 1, 1), rect.Of(-3, -3, 4, 4), rect.Of(-most, -most, most, most)}
	for _, r := range emptyOnes() {
		if !r.Empty() || r.Area() != 0 || rect.Of(r.X0, r.Y0, r.X1, r.Y1) != (rect.Rect{}) {
			t.Errorf("%v: Empty %v, Area %d, Of %v", r, r.Empty(), r.Area(), rect.Of(r.X0, r.Y0, r.X1, r.Y1))
		}
		for _, n := range []int{0, 1, -1, 10, -10, most / 2, -most / 2} {
			if got := r.Grow(n); got != (rect.Rect{}) {
				t.Errorf("%v Grow(%d): %v", r, n, got)
			}
		}
		for _, s := range append(some, emptyOnes()...) {
			if l := r.Less(s); !r.Within(s) || len(l) != 0 || r.Cut(s) != (rect.Rect{}) || s.Cut(r) != (rect.Rect{}) {
				t.Errorf("%v and %v: Within %v, Less %v, Cut %v, %v", r, s, r.Within(s), l, r.Cut(s), s.Cut(r))
			}
		}
		for _, s := range some {
			if l := s.Less(r); s.Within(r) || !slices.Equal(l, []rect.Rect{s}) || s.Join(r) != s || r.Join(s) != s {
				t.Errorf("%v and %v: Within %v, Less %v, Join %v, %v", s, r, s.Within(r), l, s.Join(r), r.Join(s))
			}
		}
	}
}

// P6.1, P6.2: what order alone decides is the same of numbers up to the bounds: small numbers are put into great ones, that rise as they do.
func TestOfGreatNumbers(t *testing.T) {
	for _, great := range [][]int{
		{-most, -most + 1, 0, most - 1, most},
		{-most, -1, 0, 1, most},
		{-most, most / 2, most - 2, most - 1, most},
		{-most, 1 - most, 2 - most, 3 - most, most},
		{-1 << 32, -1 << 31, 0, 1 << 31, 1 << 32},
	} {
		put := func(r rect.Rect) rect.Rect {
			return rect.Rect{X0: great[r.X0], Y0: great[r.Y0], X1: great[r.X1], Y1: great[r.Y1]}
		}
		of := func(r rect.Rect) rect.Rect {
			if r == (rect.Rect{}) {
				return r
			}
			return put(r)
		}
		next := noise.Numbers(uint64(great[1]))
		l := small.Rects(0, 4)
		for range 40000 {
			r, s, u := l[next()%uint64(len(l))], l[next()%uint64(len(l))], l[next()%uint64(len(l))]
			var less []rect.Rect
			for _, part := range r.Less(s) {
				less = append(less, put(part))
			}
			a, b, c := put(r), put(s), put(u)
			if a.Cut(b, c) != of(r.Cut(s, u)) || a.Join(b, c) != of(r.Join(s, u)) || a.Within(b) != r.Within(s) || a.Empty() != r.Empty() || !slices.Equal(a.Less(b), less) || rect.Of(a.X0, a.Y0, a.X1, a.Y1) != of(rect.Of(r.X0, r.Y0, r.X1, r.Y1)) {
				t.Fatalf("%v, %v, %v: Cut %v, Join %v, Within %v, Empty %v, Less %v", a, b, c, a.Cut(b, c), a.Join(b, c), a.Within(b), a.Empty(), a.Less(b))
			}
			if x, y := int(next()%5), int(next()%5); a.Has(great[x], great[y]) != r.Has(x, y) {
				t.Fatalf("%v Has(%d, %d): %v", a, great[x], great[y], a.Has(great[x], great[y]))
			}
		}
	}
}

// P6.1: Has by each edge of the greatest rectangle, and of one pixel in its corners.
func TestHasAtTheBounds(t *testing.T) {
	r := rect.Of(-most, -most, most, most)
	for _, c := range []struct {
		x, y int
		has  bool
	}{
		{-most, -most, true}, {most - 1, most - 1, true}, {most - 1, -most, true}, {-most, most - 1, true}, {0, 0, true},
		{most, 0, false}, {0, most, false}, {most, most, false}, {-most - 1, 0, false}, {0, -most - 1, false},
	} {
		if r.Has(c.x, c.y) != c.has {
			t.Errorf("Has(%d, %d): %v", c.x, c.y, r.Has(c.x, c.y))
		}
	}
	if one := rect.Of(most-1, -most, most, 1-most); one.Area() != 1 || !one.Has(most-1, -most) || one.Has(most, -most) || one.Has(most-1, 1-most) {
		t.Errorf("one pixel: %v", one)
	}
}

// P6.2: Grow gives each pixel up to n away, and below 0 it leaves those whose pixels up to n away are all there.
func TestGrow(t *testing.T) {
	window := rect.Rect{X0: low, Y0: low, X1: high, Y1: high}
	for _, r := range small.Rects(-1, 3) {
		for n := -4; n <= 4; n++ {
			got := r.Grow(n)
			if r.Grow(0) != rect.Of(r.X0, r.Y0, r.X1, r.Y1) {
				t.Fatalf("%v Grow(0): %v", r, r.Grow(0))
			}
			for y := low - 4; y < high+4; y++ {
				for x := low - 4; x < high+4; x++ {
					if got.Has(x, y) != grownHas(r, n, x, y) {
						t.Fatalf("%v Grow(%d): %v, at %d, %d", r, n, got, x, y)
					}
				}
			}
			if got.Empty() != (got == rect.Rect{}) || !got.Within(window.Grow(4)) {
				t.Fatalf("%v Grow(%d): %v", r, n, got)
			}
		}
	}
}

// grownHas tells if r, grown, has the pixel, asked of the square of pixels about it.
func grownHas(r rect.Rect, n, x, y int) bool {
	some, every := false, true
	away := max(n, -n)
	for dy := -away; dy <= away; dy++ {
		for dx := -away; dx <= away; dx++ {
			has := r.X0 <= x+dx && x+dx < r.X1 && r.Y0 <= y+dy && y+dy < r.Y1
			some, every = some || has, every && has
		}
	}
	if n < 0 {
		return every
	}
	return some
}

// P6.2: Grow up to the bounds of n, and of rectangles.
func TestGrowAtTheBounds(t *testing.T) {
	const half = 1 << 39
	for _, c := range []struct {
		r    rect.Rect
		n    int
		want rect.Rect
	}{
		{rect.Of(-most, -most, most, most), half, rect.Rect{X0: -most - half, Y0: -most - half, X1: most + half, Y1: most + half}},
		{rect.Of(-most, -most, most, most), -half, rect.Rect{X0: half - most, Y0: half - most, X1: most - half, Y1: most - half}},
		{rect.Of(0, 0, 1, 1), half, rect.Rect{X0: -half, Y0: -half, X1: 1 + half, Y1: 1 + half}},
		{rect.Of(0, 0, 1, 1), -half, rect.Rect{}},
		{rect.Of(0, 0, most, most), -half, rect.Rect{}},
		{rect.Of(-1, 0, most, most), -half, rect.Rect{}},
		{rect.Of(0, -1, most, most), -half, rect.Rect{}},
		{rect.Of(-1, -1, most, most), -half, rect.Rect{X0: half - 1, Y0: half - 1, X1: half, Y1: half}},
		{rect.Of(1, 2, 10, 20), -4, rect.Rect{X0: 5, Y0: 6, X1: 6, Y1: 16}},
		{rect.Of(1, 2, 10, 20), -5, rect.Rect{}},
		{rect.Of(1, 2, 10, 20), 3, rect.Rect{X0: -2, Y0: -1, X1: 13, Y1: 23}},
	} {
		if got := c.r.Grow(c.n); got != c.want {
			t.Errorf("%v Grow(%d): %v, not %v", c.r, c.n, got, c.want)
		}
	}
}

// P6.2: Area up to the bounds of its numbers.
func TestAreaAtTheBounds(t *testing.T) {
	const bound = 1 << 30
	l := []int{-bound, 1 - bound, -1, 0, 1, bound - 1, bound}
	for _, x0 := range l {
		for _, y0 := range l {
			for _, x1 := range l {
				for _, y1 := range l {
					want := new(big.Int).Mul(big.NewInt(int64(max(0, x1-x0))), big.NewInt(int64(max(0, y1-y0))))
					r := rect.Rect{X0: x0, Y0: y0, X1: x1, Y1: y1}
					if got := r.Area(); want.Cmp(big.NewInt(int64(got))) != 0 {
						t.Fatalf("%v Area: %d, not %s", r, got, want)
					}
				}
			}
		}
	}
	if got := rect.Of(-bound, -bound, bound, bound).Area(); got != 1<<62 {
		t.Errorf("Area of the greatest: %d", got)
	}
}

// P6.1, P6.2: what is handed in is neither changed nor kept, and what is told is new memory, its spare room too.
func TestMemory(t *testing.T) {
	r := rect.Of(0, 0, 9, 9)
	whole := []rect.Rect{rect.Of(1, 1, 5, 5), {X0: 3, X1: 1}, rect.Of(2, 2, 7, 7), rect.Of(8, 8, 9, 9)}
	given := slices.Clone(whole)
	r.Cut(whole[:3]...)
	r.Join(whole[:3]...)
	if !slices.Equal(whole, given) {
		t.Errorf("what was handed in is now %v", whole)
	}
	for _, s := range []rect.Rect{rect.Of(3, 3, 5, 5), rect.Of(20, 20, 21, 21), rect.Of(0, 0, 9, 4)} {
		a, b := r.Less(s), r.Less(s)
		want := slices.Clone(a)
		spoil(b)
		if !slices.Equal(a, want) || !slices.Equal(r.Less(s), want) {
			t.Errorf("Less %v: %v, not %v", s, a, want)
		}
	}
}

// spoil writes over l, and its spare room.
func spoil(l []rect.Rect) {
	l = l[:cap(l)]
	for k := range l {
		l[k] = rect.Rect{X0: 77, Y0: 77, X1: 77, Y1: 77}
	}
}

// P1: no call panics, or goes on for ever, at numbers of which nothing else is promised.
func TestAllArguments(t *testing.T) {
	l := []int{math.MinInt, math.MinInt + 1, -most - 1, -1, 0, 1, most + 1, math.MaxInt - 1, math.MaxInt}
	next := noise.Numbers(9)
	some := func() int { return l[next()%uint64(len(l))] }
	for range 50000 {
		r := rect.Rect{X0: some(), Y0: some(), X1: some(), Y1: some()}
		s := rect.Of(some(), some(), some(), some())
		r.Empty()
		r.Has(some(), some())
		r.Cut(s, r)
		r.Join(s, r)
		r.Grow(some())
		r.Within(s)
		r.Area()
		r.Less(s)
	}
}
