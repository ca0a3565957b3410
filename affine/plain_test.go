package affine_test

import (
	"math/big"
	"testing"

	"mutoscope/affine"
	"mutoscope/api"
)

const (
	one    = 65536
	maxFix = 1073741824
)

// number is n as one of any size.
func number(n int64) *big.Int {
	return big.NewInt(n)
}

// products is the sum of the products of l's numbers, two by two.
func products(l ...int64) *big.Int {
	sum := new(big.Int)
	for k := 0; k < len(l); k += 2 {
		sum.Add(sum, new(big.Int).Mul(number(l[k]), number(l[k+1])))
	}
	return sum
}

// rounded is n / d, of any d but 0, rounded to the nearest whole number, and to the greater one of two: the greatest one that isn't above n / d and a half.
func rounded(n, d *big.Int) *big.Int {
	if d.Sign() < 0 {
		n, d = new(big.Int).Neg(n), new(big.Int).Neg(d)
	}
	twice := new(big.Int).Add(new(big.Int).Lsh(n, 1), d)
	// Of a divisor above 0, Div rounds down.
	return twice.Div(twice, new(big.Int).Lsh(d, 1))
}

// right is: from -MaxFix to MaxFix, all of l.
func right(l ...*big.Int) bool {
	for _, n := range l {
		if n.CmpAbs(number(maxFix)) > 0 {
			return false
		}
	}
	return true
}

// rightOnes is the same of small numbers.
func rightOnes(l ...int64) bool {
	for _, n := range l {
		if !right(number(n)) {
			return false
		}
	}
	return true
}

func numbers(m affine.Map) [6]int64 {
	return [6]int64{m.A, m.B, m.C, m.D, m.E, m.F}
}

func mapOf(l [6]int64) affine.Map {
	return affine.Map{A: l[0], B: l[1], C: l[2], D: l[3], E: l[4], F: l[5]}
}

func rightMap(m affine.Map) bool {
	l := numbers(m)
	return rightOnes(l[:]...)
}

// plainTake is what P8.1 says of Take, of any map and point.
func plainTake(m affine.Map, p affine.Point) (affine.Point, bool) {
	x := rounded(products(m.A, p.X, m.C, p.Y, m.E, one), number(one))
	y := rounded(products(m.B, p.X, m.D, p.Y, m.F, one), number(one))
	if !rightMap(m) || !rightOnes(p.X, p.Y) || !right(x, y) {
		return affine.Point{}, false
	}
	return affine.Point{X: x.Int64(), Y: y.Int64()}, true
}

// plainThen is what P8.2 says of Then.
func plainThen(m affine.Map, l ...affine.Map) (affine.Map, api.Errno) {
	for _, n := range append([]affine.Map{m}, l...) {
		if !rightMap(n) {
			return affine.Map{}, api.ErrRange
		}
	}
	for _, n := range l {
		var next [6]int64
		for k, sum := range []*big.Int{
			products(n.A, m.A, n.C, m.B),
			products(n.B, m.A, n.D, m.B),
			products(n.A, m.C, n.C, m.D),
			products(n.B, m.C, n.D, m.D),
			products(n.A, m.E, n.C, m.F, n.E, one),
			products(n.B, m.E, n.D, m.F, n.F, one),
		} {
			x := rounded(sum, number(one))
			if !right(x) {
				return affine.Map{}, api.ErrOver
			}
			next[k] = x.Int64()
		}
		m = mapOf(next)
	}
	return m, api.OK
}

// plainBack is a map's way back: the numbers a, b, c, d, or why there is none.
func plainBack(m affine.Map) ([4]int64, api.Errno) {
	if !rightMap(m) {
		return [4]int64{}, api.ErrRange
	}
	det := products(m.A, m.D, -m.B, m.C)
	if det.Sign() == 0 {
		return [4]int64{}, api.ErrSingular
	}
	var l [4]int64
	for k, n := range []int64{m.D, -m.B, -m.C, m.A} {
		x := rounded(new(big.Int).Lsh(number(n), 32), det)
		if !right(x) {
			return [4]int64{}, api.ErrOver
		}
		l[k] = x.Int64()
	}
	return l, api.OK
}

// plainTakeBack is where m's way back of the numbers l takes p.
func plainTakeBack(m affine.Map, l [4]int64, p affine.Point) affine.Point {
	u, v := p.X-m.E, p.Y-m.F
	x := rounded(products(l[0], u, l[2], v), number(one))
	y := rounded(products(l[1], u, l[3], v), number(one))
	return affine.Point{X: x.Int64(), Y: y.Int64()}
}

// take fails if Take doesn't tell what the chapter says.
func take(t *testing.T, m affine.Map, p affine.Point) {
	t.Helper()
	got, ok := m.Take(p)
	if want, right := plainTake(m, p); got != want || ok != right {
		t.Fatalf("%v Take(%v): %v, %v, not %v, %v", m, p, got, ok, want, right)
	}
}

// then fails if Then doesn't tell what the chapter says, or changes what it is given.
func then(t *testing.T, m affine.Map, l ...affine.Map) {
	t.Helper()
	given := append([]affine.Map(nil), l...)
	got, e := m.Then(l...)
	if want, wantE := plainThen(m, given...); got != want || e != wantE {
		t.Fatalf("%v Then(%v): %v, %d, not %v, %d", m, given, got, e, want, wantE)
	}
	for k := range l {
		if l[k] != given[k] {
			t.Fatalf("Then(%v) left %v", given, l)
		}
	}
}

// back fails if Back, or its Take of one of the points, doesn't tell what the chapter says.
func back(t *testing.T, m affine.Map, points ...affine.Point) {
	t.Helper()
	b, e := m.Back()
	l, wantE := plainBack(m)
	if e != wantE || e != api.OK && b != (affine.Back{}) {
		t.Fatalf("%v Back: %v, %d, not %d", m, b, e, wantE)
	}
	if e != api.OK {
		return
	}
	// A step of one shows the numbers themselves.
	points = append(points, affine.Point{X: m.E + one, Y: m.F}, affine.Point{X: m.E, Y: m.F + one}, affine.Point{X: m.E, Y: m.F})
	for _, p := range points {
		if got, want := b.Take(p), plainTakeBack(m, l, p); got != want {
			t.Fatalf("%v Back, Take(%v): %v, not %v", m, p, got, want)
		}
	}
}
