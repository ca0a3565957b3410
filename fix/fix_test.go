package fix_test

import (
	"math"
	"slices"
	"testing"

	"mutoscope/api"
	"mutoscope/fix"
	"mutoscope/noise"
)

// The calls that the chapter lists, by their signatures.
var (
	_ func(l ...int64) bool          = fix.Right
	_ func(n int) (int64, bool)      = fix.Of
	_ func(n, d int64) int64         = fix.Round
	_ func(a, b int64) int64         = fix.Mul
	_ func(l ...int64) (int64, bool) = fix.Dot
	_ func(a int64) int64            = fix.Floor
	_ func(a int64) int64            = fix.Ceil
)

// P5.1, P5.2: the chapter's examples.
func TestExamples(t *testing.T) {
	if one != api.One || maxFix != api.MaxFix {
		t.Errorf("One %d, MaxFix %d", api.One, api.MaxFix)
	}
	if x := fix.Mul(3*one/2, 3*one/2); x != 147456 {
		t.Errorf("Mul of 1.5 and 1.5: %d", x)
	}
	if x := fix.Round(-3, 2); x != -1 {
		t.Errorf("Round(-3, 2): %d", x)
	}
	if x, ok := fix.Dot(2*one, 3*one, 4*one); x != 10*one || !ok {
		t.Errorf("Dot of 2, 3, 4: %d, %v", x, ok)
	}
}

// P5.1: Right of none, of those at the bounds, and of those past them, at each place of a row.
func TestRight(t *testing.T) {
	if !fix.Right() || !fix.Right(nil...) || !fix.Right(rightOnes()...) {
		t.Errorf("Right of right ones")
	}
	for _, a := range []int64{maxFix, maxFix - 1, -maxFix, 1 - maxFix, 0, 1, -1} {
		if !fix.Right(a) {
			t.Errorf("Right(%d)", a)
		}
	}
	for _, a := range wrongOnes() {
		if fix.Right(a) || fix.Right(a, a) {
			t.Errorf("Right(%d)", a)
		}
		for place := range 20 {
			l := make([]int64, 20)
			l[place] = a
			given := slices.Clone(l)
			if fix.Right(l...) || !slices.Equal(l, given) {
				t.Errorf("Right of %d, left %d", given, l)
			}
		}
	}
	if !fix.Right(make([]int64, 100000)...) {
		t.Errorf("Right of many")
	}
}

// wrongOnes is numbers that aren't right: by the bounds, and where the wrap-round of fewer bits, or of a sign that is turned, would bring them back.
func wrongOnes() []int64 {
	return []int64{maxFix + 1, -maxFix - 1, 2 * maxFix, -2 * maxFix, 1<<31 - 1, -1 << 31, 1 << 32, 1<<32 + 1, -1 << 32, 1 << 47, 1 << 48, -1 << 48, 1 << 62, -1 << 62, math.MaxInt64, math.MinInt64, math.MinInt64 + 1}
}

// P5.1: Of tells each whole number that is right, and no other.
func TestOf(t *testing.T) {
	for n := -20000; n <= 20000; n++ {
		want, right := int64(n)*65536, n >= -16384 && n <= 16384
		if !right {
			want = 0
		}
		if x, ok := fix.Of(n); x != want || ok != right {
			t.Fatalf("Of(%d): %d, %v", n, x, ok)
		}
	}
	for _, a := range wrongOnes() {
		if x, ok := fix.Of(int(a)); x != 0 || ok {
			t.Errorf("Of(%d): %d, %v", a, x, ok)
		}
	}
}

// P5.1: Round of small ratios, each of them.
func TestRoundOfSmall(t *testing.T) {
	for n := int64(-100); n <= 100; n++ {
		for d := int64(1); d <= 40; d++ {
			round(t, n, d)
		}
	}
}

// P5.1: Round of two that are as near tells the greater one, on both sides of 0.
func TestRoundOfHalves(t *testing.T) {
	for _, c := range [][3]int64{{1, 2, 1}, {-1, 2, 0}, {3, 2, 2}, {-3, 2, -1}, {5, 2, 3}, {-5, 2, -2}, {3, 6, 1}, {-3, 6, 0}, {1 << 61, 1 << 62, 1}, {-1 << 61, 1 << 62, 0}, {1<<61 - 1, 1 << 62, 0}, {-1<<61 - 1, 1 << 62, -1}} {
		if x := fix.Round(c[0], c[1]); x != c[2] {
			t.Errorf("Round(%d, %d): %d, not %d", c[0], c[1], x, c[2])
		}
	}
}

// P5.1: Round up to the bounds of n and d.
func TestRoundOfGreat(t *testing.T) {
	const most = 1 << 62
	for _, n := range about(0, 1<<31, -1<<31, 1<<61, -1<<61, most-3, 3-most) {
		for _, d := range about(4, 1<<16, 1<<31, 1<<32, 1<<61, most/3, most-3) {
			round(t, n, d)
		}
	}
	next := noise.Numbers(1)
	for range 20000 {
		d := 1 + int64(next()>>2>>(next()%62))
		round(t, within(next, most), min(d, most))
	}
}

// P5.1: Mul of those at the bounds, at whole ones and halves, and of any others.
func TestMul(t *testing.T) {
	l := rightOnes()
	for _, a := range l {
		for _, b := range l {
			mul(t, a, b)
		}
		if x := fix.Mul(a, one); x != a {
			t.Errorf("Mul(%d, 1.0): %d", a, x)
		}
	}
	next := noise.Numbers(2)
	for range 20000 {
		mul(t, within(next, maxFix), within(next, maxFix))
	}
}

// P5.1: the product needn't be right itself.
func TestMulIsNotHeldByTheBounds(t *testing.T) {
	for _, c := range [][3]int64{{maxFix, maxFix, 1 << 44}, {maxFix, -maxFix, -1 << 44}, {-maxFix, -maxFix, 1 << 44}, {maxFix, 2 * one, 1 << 31}} {
		if x := fix.Mul(c[0], c[1]); x != c[2] {
			t.Errorf("Mul(%d, %d): %d, not %d", c[0], c[1], x, c[2])
		}
	}
}

// P5.1: Floor and Ceil about each whole number up to some, at the bounds, and of any others.
func TestFloorAndCeil(t *testing.T) {
	for whole := int64(-16383); whole <= 16383; whole++ {
		for _, a := range about(whole * one) {
			floorAndCeil(t, a)
		}
		if fix.Floor(whole*one) != whole || fix.Ceil(whole*one) != whole {
			t.Fatalf("Floor and Ceil of %d: %d, %d", whole, fix.Floor(whole*one), fix.Ceil(whole*one))
		}
	}
	for _, a := range rightOnes() {
		floorAndCeil(t, a)
	}
	next := noise.Numbers(3)
	for range 20000 {
		floorAndCeil(t, within(next, maxFix))
	}
}

// P5.2: Dot of none, of one, and of up to eight right ones.
func TestDot(t *testing.T) {
	for _, none := range [][]int64{nil, {}} {
		if x, ok := fix.Dot(none...); x != 0 || !ok {
			t.Errorf("Dot of none: %d, %v", x, ok)
		}
	}
	for _, a := range rightOnes() {
		if x, ok := fix.Dot(a); x != a || !ok {
			t.Errorf("Dot(%d): %d, %v", a, x, ok)
		}
		for _, b := range rightOnes() {
			dot(t, a, b)
			dot(t, a, b, -a, b)
			dot(t, a, b, b)
		}
	}
	next := noise.Numbers(4)
	for k := range 40000 {
		l := make([]int64, k%10)
		for place := range l {
			l[place] = within(next, maxFix+3)
		}
		dot(t, l...)
	}
}

// P5.2: Dot is rounded once, behind all products: halves together are a whole one.
func TestDotIsRoundedOnce(t *testing.T) {
	for _, c := range []struct {
		l    []int64
		want int64
	}{
		{[]int64{1, one / 2}, 1},
		{[]int64{-1, one / 2}, 0},
		{[]int64{1, one / 2, 1, one / 2}, 1},
		{[]int64{-1, one / 2, -1, one / 2}, -1},
		{[]int64{1, one/2 - 1}, 0},
		{[]int64{1, one/2 - 1, 1, 1}, 1},
		{[]int64{1, one / 4, 1, one / 4, 1, one / 4, 1, one / 4}, 1},
		{[]int64{1, one / 3, 1, one / 3, 1, one / 3, 5}, 6},
		{[]int64{-1, one / 2, 5}, 5},
		{[]int64{-1, one/2 + 1, 5}, 4},
	} {
		dot(t, c.l...)
		if x, ok := fix.Dot(c.l...); x != c.want || !ok {
			t.Errorf("Dot of %d: %d, %v, not %d", c.l, x, ok, c.want)
		}
	}
}

// P5.2: Dot of those at the bounds, whose products are up to 2^62 together, and which stand against each other.
func TestDotOfGreat(t *testing.T) {
	for mask := range 256 {
		for size := range 9 {
			l := make([]int64, size)
			for place := range l {
				l[place] = maxFix
				if mask>>place&1 == 1 {
					l[place] = -maxFix
				}
			}
			dot(t, l...)
		}
	}
}

// P5.2: a Dot that is just right, and one that just isn't, on both sides.
func TestDotAtTheBounds(t *testing.T) {
	for _, c := range []struct {
		l     []int64
		want  int64
		right bool
	}{
		{[]int64{maxFix, one}, maxFix, true},
		{[]int64{-maxFix, one}, -maxFix, true},
		{[]int64{maxFix, one + 1}, 0, false},
		{[]int64{-maxFix, one + 1}, 0, false},
		{[]int64{maxFix, one, 1}, 0, false},
		{[]int64{maxFix, one, -1}, maxFix - 1, true},
		{[]int64{-maxFix, one, -1}, 0, false},
		{[]int64{-maxFix, one, 1}, 1 - maxFix, true},
		{[]int64{maxFix, one, 1, one/2 - 1}, maxFix, true},
		{[]int64{maxFix, one, 1, one / 2}, 0, false},
		{[]int64{-maxFix, one, -1, one / 2}, -maxFix, true},
		{[]int64{-maxFix, one, -1, one/2 + 1}, 0, false},
		{[]int64{maxFix, maxFix, -maxFix, maxFix, 7}, 7, true},
	} {
		dot(t, c.l...)
		if x, ok := fix.Dot(c.l...); x != c.want || ok != c.right {
			t.Errorf("Dot of %d: %d, %v, not %d, %v", c.l, x, ok, c.want, c.right)
		}
	}
}

// P5.2: more than eight, or one at any place that isn't right, are refused, whatever their sum.
func TestDotRefuses(t *testing.T) {
	for _, size := range []int{9, 10, 16, 17, 100000} {
		if x, ok := fix.Dot(make([]int64, size)...); x != 0 || ok {
			t.Errorf("Dot of %d numbers: %d, %v", size, x, ok)
		}
	}
	for _, a := range wrongOnes() {
		for size := 1; size <= 8; size++ {
			for place := range size {
				l := make([]int64, size)
				l[place] = a
				dot(t, l...)
			}
		}
	}
}

// P1: no call panics, or goes on for ever, at numbers of which nothing else is promised.
func TestAllArguments(t *testing.T) {
	l := append(wrongOnes(), about(0, maxFix, -maxFix, 1<<62, -1<<62)...)
	for _, a := range l {
		fix.Floor(a)
		fix.Ceil(a)
		fix.Of(int(a))
		for _, b := range l {
			fix.Round(a, b)
			fix.Mul(a, b)
			fix.Dot(a, b)
		}
	}
}
