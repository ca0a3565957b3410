package region_test

import (
	"cmp"
	"iter"
	"math"
	"math/big"
	"slices"
	"testing"

	"mutoscope/noise"
	"mutoscope/rect"
	"mutoscope/region"
	"mutoscope/small"
)

// The calls that the chapter lists, by their signatures.
var (
	_ func(frame rect.Rect) *region.Region       = region.New
	_ func(r *region.Region, l ...rect.Rect)     = (*region.Region).Add
	_ func(r *region.Region, l ...rect.Rect)     = (*region.Region).Less
	_ func(r *region.Region, x, y int) bool      = (*region.Region).Has
	_ func(r *region.Region, p rect.Rect) bool   = (*region.Region).Meets
	_ func(r *region.Region) int                 = (*region.Region).Area
	_ func(r *region.Region) rect.Rect           = (*region.Region).Bound
	_ func(r *region.Region) iter.Seq[rect.Rect] = (*region.Region).Each
	_ func(r *region.Region)                     = (*region.Region).Clear
)

// most is the bound of the numbers of which something is promised.
const most = 1 << 30

// P7.1, P7.2: the chapter's example.
func TestExample(t *testing.T) {
	r := region.New(rect.Of(0, 0, 4, 4))
	r.Add(rect.Of(1, 1, 9, 3), rect.Of(0, 0, 2, 2))
	if r.Area() != 9 || r.Bound() != rect.Of(0, 0, 4, 3) {
		t.Errorf("Area %d, Bound %v", r.Area(), r.Bound())
	}
}

// P7.1: New, and Clear behind anything, have no pixel, and what comes then is all there is.
func TestNewAndClear(t *testing.T) {
	frame := rect.Of(low, low, high, high)
	r, m := region.New(frame), plainOf(frame)
	same(t, r, m)
	meets(t, r, m, small.Rects(-1, 2))
	r.Add(rect.Of(0, 0, 2, 2), rect.Of(-2, 1, 1, 4))
	for range 2 {
		r.Clear()
		same(t, r, m)
		meets(t, r, m, small.Rects(-1, 2))
	}
	r.Less(frame)
	same(t, r, m)
	r.Add(rect.Of(1, 1, 9, 2))
	m.add(rect.Of(1, 1, 9, 2))
	same(t, r, m)
}

// P7.1, P7.2: each set of pixels of a small square, and each rectangle added to it, and taken from it.
func TestAllSmallOnes(t *testing.T) {
	frame := rect.Of(0, 0, 3, 3)
	l := small.Rects(0, 3)
	for set := range 1 << 9 {
		made := func() (*region.Region, plain) {
			r, m := region.New(frame), plainOf(frame)
			for k := range 9 {
				if set>>k&1 == 1 {
					p := rect.Of(k%3, k/3, k%3+1, k/3+1)
					r.Add(p)
					m.add(p)
				}
			}
			return r, m
		}
		r, m := made()
		same(t, r, m)
		meets(t, r, m, l)
		for k := set % 3; k < len(l); k += 3 {
			r, m := made()
			r.Add(l[k])
			m.add(l[k])
			same(t, r, m)
			r, m = made()
			r.Less(l[k])
			m.less(l[k])
			same(t, r, m)
		}
	}
}

// P7.1, P7.2: walks of changes, each of any number of rectangles, in frames of all kinds: less than the square, without pixels, turned.
func TestWalks(t *testing.T) {
	l := small.Rects(low, high)
	next := noise.Numbers(1)
	some := func() rect.Rect { return l[next()%uint64(len(l))] }
	for walk := range 300 {
		frame := rect.Of(low, low, high, high)
		if walk%3 > 0 {
			frame = some()
		}
		r, m := region.New(frame), plainOf(frame)
		for range 20 {
			parts := make([]rect.Rect, next()%4)
			for k := range parts {
				parts[k] = some()
			}
			switch next() % 16 {
			case 0:
				r.Clear()
				clear(m.has)
			case 1, 2, 3, 4, 5:
				r.Less(parts...)
				m.less(parts...)
			default:
				r.Add(parts...)
				m.add(parts...)
			}
			same(t, r, m)
			meets(t, r, m, []rect.Rect{some(), some(), some(), some(), frame, {}})
		}
	}
}

// P7.1: what the frame hasn't isn't added, on any of its sides, and its own edges are.
func TestFrame(t *testing.T) {
	frame := rect.Of(-1, 0, 3, 2)
	for _, p := range small.Rects(low, high) {
		r, m := region.New(frame), plainOf(frame)
		r.Add(p)
		m.add(p)
		if got := slices.Collect(r.Each()); r.Area() != len(m.has) || r.Bound() != m.bound() || len(got) > 1 {
			t.Fatalf("Add(%v): %v", p, got)
		}
	}
	for _, frame := range []rect.Rect{{}, {X0: 2, Y0: 0, X1: 0, Y1: 3}, {X0: 0, Y0: 3, X1: 2, Y1: 0}, {X0: 1, Y0: 1, X1: 1, Y1: 2}, {X0: 2, Y0: 2, X1: 0, Y1: 0}} {
		r := region.New(frame)
		r.Add(rect.Of(-9, -9, 9, 9), frame)
		same(t, r, plainOf(frame))
		r.Less(frame)
		same(t, r, plainOf(frame))
	}
}

// P7.1: rectangles without pixels change nothing, and meet nothing, even where the order of their numbers alone would let them.
func TestEmptyOnes(t *testing.T) {
	frame := rect.Of(low, low, high, high)
	r, m := region.New(frame), plainOf(frame)
	r.Add(rect.Of(-1, -1, 3, 3))
	r.Less(rect.Of(0, 0, 1, 1))
	m.add(rect.Of(-1, -1, 3, 3))
	m.less(rect.Of(0, 0, 1, 1))
	for _, p := range small.Rects(-2, 4) {
		if p.X0 < p.X1 && p.Y0 < p.Y1 {
			continue
		}
		r.Add(p)
		r.Less(p)
		if r.Meets(p) {
			t.Fatalf("Meets(%v)", p)
		}
	}
	same(t, r, m)
	r.Add()
	r.Less()
	r.Add(nil...)
	r.Less(nil...)
	same(t, r, m)
}

// P7.1: any number at once is what they are one behind the other, in any order.
func TestAnyNumber(t *testing.T) {
	frame := rect.Of(0, 0, 1000, 1000)
	next := noise.Numbers(2)
	l := make([]rect.Rect, 200)
	for k := range l {
		x, y := int(next()%1000), int(next()%1000)
		l[k] = rect.Of(x, y, x+int(next()%60), y+int(next()%60))
	}
	all, one, back := region.New(frame), region.New(frame), region.New(frame)
	all.Add(l...)
	for k := range l {
		one.Add(l[k])
		back.Add(l[len(l)-1-k])
	}
	has := func(x, y int) bool {
		return slices.ContainsFunc(l, func(p rect.Rect) bool { return p.Has(x, y) })
	}
	area := 0
	for y := range 1000 {
		for x := range 1000 {
			if has(x, y) {
				area++
			}
			if want := has(x, y); all.Has(x, y) != want || one.Has(x, y) != want || back.Has(x, y) != want {
				t.Fatalf("Has(%d, %d): %v, %v, %v", x, y, all.Has(x, y), one.Has(x, y), back.Has(x, y))
			}
		}
	}
	if all.Area() != area || one.Area() != area || back.Area() != area {
		t.Errorf("Area: %d, %d, %d, not %d", all.Area(), one.Area(), back.Area(), area)
	}
	all.Less(l[50:]...)
	for _, p := range l[50:] {
		one.Less(p)
		if all.Meets(p) || one.Meets(p) {
			t.Errorf("behind Less of %v: %v, %v", p, all.Meets(p), one.Meets(p))
		}
	}
	if all.Area() != one.Area() || all.Bound() != one.Bound() {
		t.Errorf("Less: %d, %d", all.Area(), one.Area())
	}
}

// Rows of numbers that rise up to the bounds.
func greatRows() [][]int {
	return [][]int{
		{-most, 1 - most, -2, -1, 0, 1, 2, most - 1, most},
		{-most, -most / 2, -most/2 + 1, -3, 0, 3, most/2 - 1, most / 2, most},
		{-most, 1 - most, 2 - most, 3 - most, 4 - most, most - 3, most - 2, most - 1, most},
	}
}

// P7.1, P7.2: of numbers up to the bounds it is as of small ones, that are put into great ones, which rise as they do.
func TestOfGreatNumbers(t *testing.T) {
	for _, great := range greatRows() {
		put := func(p rect.Rect) rect.Rect {
			return rect.Rect{X0: great[p.X0-low], Y0: great[p.Y0-low], X1: great[p.X1-low], Y1: great[p.Y1-low]}
		}
		next := noise.Numbers(uint64(great[1]))
		l := small.Rects(low, high)
		for range 60 {
			frame := l[next()%uint64(len(l))]
			if next()%4 > 0 {
				frame = rect.Of(low, low, high, high)
			}
			r, m := region.New(put(frame)), plainOf(frame)
			for range 8 {
				p, q := l[next()%uint64(len(l))], l[next()%uint64(len(l))]
				r.Add(put(p))
				m.add(p)
				r.Less(put(q))
				m.less(q)
				sameOfGreat(t, r, m, great)
				if p := l[next()%uint64(len(l))]; r.Meets(put(p)) != m.meets(p) {
					t.Fatalf("Meets(%v): %v", put(p), r.Meets(put(p)))
				}
			}
		}
	}
}

// sameOfGreat fails if r doesn't tell what m's pixels are, each put into all pixels between two great numbers.
func sameOfGreat(t *testing.T, r *region.Region, m plain, great []int) {
	t.Helper()
	area := new(big.Int)
	for _, at := range square() {
		x0, y0, x1, y1 := great[at.x-low], great[at.y-low], great[at.x-low+1], great[at.y-low+1]
		has := m.has[at]
		if r.Has(x0, y0) != has || r.Has(x1-1, y1-1) != has || r.Has(x0, y1-1) != has || r.Has(x1-1, y0) != has {
			t.Fatalf("Has of %d, %d to %d, %d: not %v", x0, y0, x1, y1, has)
		}
		if has {
			area.Add(area, new(big.Int).Mul(big.NewInt(int64(x1-x0)), big.NewInt(int64(y1-y0))))
		}
	}
	b := m.bound()
	if len(m.has) > 0 {
		b = rect.Rect{X0: great[b.X0-low], Y0: great[b.Y0-low], X1: great[b.X1-low], Y1: great[b.Y1-low]}
	}
	if area.Cmp(big.NewInt(int64(r.Area()))) != 0 || r.Bound() != b {
		t.Fatalf("Area %d, not %s, Bound %v, not %v", r.Area(), area, r.Bound(), b)
	}
}

// P7.2: the greatest frame, whole, with one pixel less, and a pixel in its corner.
func TestTheGreatestFrame(t *testing.T) {
	frame := rect.Of(-most, -most, most, most)
	r := region.New(frame)
	r.Add(frame)
	if l := slices.Collect(r.Each()); r.Area() != 1<<62 || r.Bound() != frame || !slices.Equal(l, []rect.Rect{frame}) {
		t.Errorf("Area %d, Bound %v, Each %v", r.Area(), r.Bound(), l)
	}
	for _, c := range []place{{-most, -most}, {most - 1, most - 1}, {most - 1, -most}, {-most, most - 1}, {0, 0}} {
		one := rect.Of(c.x, c.y, c.x+1, c.y+1)
		r.Less(one)
		if r.Area() != 1<<62-1 || r.Has(c.x, c.y) || r.Meets(one) || !r.Meets(frame) || r.Bound() != frame {
			t.Errorf("without %v: Area %d, Bound %v", c, r.Area(), r.Bound())
		}
		r.Add(one)
		if r.Area() != 1<<62 || !r.Has(c.x, c.y) || !r.Meets(one) {
			t.Errorf("with %v: Area %d", c, r.Area())
		}
	}
	for _, c := range []place{{most, 0}, {0, most}, {-most - 1, 0}, {0, -most - 1}, {math.MaxInt, 0}, {0, math.MaxInt}, {math.MinInt, 0}, {0, math.MinInt}} {
		if r.Has(c.x, c.y) {
			t.Errorf("Has(%d, %d)", c.x, c.y)
		}
	}
}

// dots is a region of n pixels, none beside another one, and the rectangles it has to tell.
func dots(n int) (*region.Region, []rect.Rect) {
	r := region.New(rect.Of(0, 0, 100, 100))
	var l []rect.Rect
	for k := range n {
		p := rect.Of(k%3*2, k/3*2, k%3*2+1, k/3*2+1)
		r.Add(p)
		l = append(l, p)
	}
	return r, l
}

// P7.2: Each is told as far as it is asked, and can be asked again.
func TestEachAsFarAsAsked(t *testing.T) {
	r, want := dots(10)
	seq := r.Each()
	for n := 1; n <= 10; n++ {
		var got []rect.Rect
		for p := range seq {
			got = append(got, p)
			if len(got) == n {
				break
			}
		}
		if !slices.Equal(got, want[:n]) {
			t.Errorf("Each, %d asked: %v", n, got)
		}
	}
	pairs := 0
	for p := range seq {
		for q := range seq {
			if p == q {
				break
			}
			pairs++
		}
	}
	if pairs != 45 || !slices.Equal(slices.Collect(seq), want) || !slices.Equal(slices.Collect(r.Each()), want) {
		t.Errorf("Each, within itself: %d pairs", pairs)
	}
}

// P7.2: what Each told stays what it was, whatever changes come ahead of the asking, or amid it.
func TestEachAmidChanges(t *testing.T) {
	for name, change := range map[string]func(r *region.Region, p rect.Rect){
		"Add":        func(r *region.Region, p rect.Rect) { r.Add(p.Grow(1)) },
		"Less":       func(r *region.Region, p rect.Rect) { r.Less(p.Grow(2)) },
		"Less, Add":  func(r *region.Region, p rect.Rect) { r.Less(p); r.Add(p) },
		"Clear":      func(r *region.Region, p rect.Rect) { r.Clear() },
		"Clear, Add": func(r *region.Region, p rect.Rect) { r.Clear(); r.Add(rect.Of(50, 50, 60, 60), p) },
	} {
		r, want := dots(10)
		ahead := r.Each()
		var got []rect.Rect
		for p := range r.Each() {
			got = append(got, p)
			change(r, p)
		}
		if !slices.Equal(got, want) || !slices.Equal(slices.Collect(ahead), want) {
			t.Errorf("%s: %v, and %v", name, got, slices.Collect(ahead))
		}
	}
}

// P7.1: what is handed in is neither changed nor kept, and regions share nothing.
func TestMemory(t *testing.T) {
	frame := rect.Of(low, low, high, high)
	whole := []rect.Rect{rect.Of(0, 0, 2, 2), {X0: 3, X1: 1}, rect.Of(1, 1, 99, 3), rect.Of(-2, -2, -1, -1)}
	given := slices.Clone(whole)
	r, m, other := region.New(frame), plainOf(frame), region.New(frame)
	r.Add(whole[:3]...)
	m.add(given[:3]...)
	r.Less(whole[:1]...)
	m.less(given[:1]...)
	other.Add(whole...)
	if !slices.Equal(whole, given) {
		t.Errorf("what was handed in is now %v", whole)
	}
	clear(whole)
	same(t, r, m)
	other.Clear()
	other.Add(frame)
	same(t, r, m)
}

// The same pixels are the same rectangles, and the fewest for one rectangle, whatever changes they come of: what is kept doesn't grow by changes.
func TestWhatIsKept(t *testing.T) {
	frame := rect.Of(0, 0, 64, 64)
	r := region.New(frame)
	next := noise.Numbers(3)
	for range 2000 {
		x, y := int(next()%64), int(next()%64)
		p := rect.Of(x, y, x+int(next()%9), y+int(next()%9))
		if next()%2 == 0 {
			r.Add(p)
		} else {
			r.Less(p)
		}
	}
	again := region.New(frame)
	for y := 63; y >= 0; y-- {
		for x := 63; x >= 0; x-- {
			if r.Has(x, y) {
				again.Add(rect.Of(x, y, x+1, y+1))
			}
		}
	}
	if a, b := slices.Collect(r.Each()), slices.Collect(again.Each()); !slices.Equal(a, b) {
		t.Errorf("%d rectangles, and %d", len(a), len(b))
	}
	for y := range 64 {
		for x := range 64 {
			r.Add(rect.Of(x, y, x+1, y+1))
		}
	}
	if l := slices.Collect(r.Each()); !slices.Equal(l, []rect.Rect{frame}) {
		t.Errorf("a whole frame: %v", l)
	}
}

// P7.1, P7.2: many rectangles that lie across one another, and are taken away again.
func TestGrid(t *testing.T) {
	const n = 200
	r := region.New(rect.Of(0, 0, 2*n, 2*n))
	var l []rect.Rect
	for k := range n {
		l = append(l, rect.Of(2*k, 0, 2*k+1, 2*n), rect.Of(0, 2*k, 2*n, 2*k+1))
	}
	r.Add(l...)
	if r.Area() != 3*n*n || r.Bound() != rect.Of(0, 0, 2*n, 2*n) || r.Has(1, 1) || !r.Has(1, 0) || !r.Has(0, 1) {
		t.Errorf("Area %d, Bound %v", r.Area(), r.Bound())
	}
	r.Less(l...)
	if r.Area() != 0 || r.Bound() != (rect.Rect{}) {
		t.Errorf("taken away: Area %d", r.Area())
	}
}

// P7.1, P7.2: many rectangles that lie apart, in no order: each of them is told.
func TestManyApart(t *testing.T) {
	const n = 10000
	frame := rect.Of(-most, -most, most, most)
	for name, at := range map[string]func(k int) rect.Rect{
		"squares":  func(k int) rect.Rect { return rect.Of(k%100*100, k/100*100, k%100*100+99, k/100*100+99) },
		"tall":     func(k int) rect.Rect { return rect.Of(2*k, k-most, 2*k+1, k) },
		"wide":     func(k int) rect.Rect { return rect.Of(k-most, 2*k, k, 2*k+1) },
		"diagonal": func(k int) rect.Rect { return rect.Of(k, k, k+1, k+1) },
	} {
		r := region.New(frame)
		area := 0
		var want []rect.Rect
		for _, k := range order(noise.Numbers(4), n) {
			r.Add(at(k))
			area += at(k).Area()
			want = append(want, at(k))
		}
		slices.SortFunc(want, func(a, b rect.Rect) int { return cmp.Or(cmp.Compare(a.Y0, b.Y0), cmp.Compare(a.X0, b.X0)) })
		if r.Area() != area || !slices.Equal(slices.Collect(r.Each()), want) {
			t.Errorf("%s: Area %d, not %d", name, r.Area(), area)
		}
	}
}

// order is the numbers below n, without an order.
func order(next func() uint64, n int) []int {
	l := make([]int, n)
	for k := range l {
		at := next() % uint64(k+1)
		l[k], l[at] = l[at], k
	}
	return l
}

// P1: no call panics, or goes on for ever, at numbers of which nothing else is promised.
func TestAllArguments(t *testing.T) {
	l := []int{math.MinInt, math.MinInt + 1, -most - 1, -most, -1, 0, 1, most, most + 1, math.MaxInt - 1, math.MaxInt}
	next := noise.Numbers(5)
	some := func() int { return l[next()%uint64(len(l))] }
	one := func() rect.Rect { return rect.Rect{X0: some(), Y0: some(), X1: some(), Y1: some()} }
	for range 3000 {
		r := region.New(one())
		for range 6 {
			r.Add(one(), one())
			r.Less(one())
			r.Has(some(), some())
			r.Meets(one())
			r.Area()
			r.Bound()
			for p := range r.Each() {
				r.Meets(p)
			}
		}
		r.Clear()
	}
}
