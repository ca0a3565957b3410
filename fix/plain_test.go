package fix_test

import (
	"math/big"
	"testing"

	"mutoscope/fix"
)

const (
	one    = 65536
	maxFix = 1073741824
)

// plainFloor is the greatest whole number that isn't above r.
func plainFloor(r *big.Rat) *big.Int {
	// Of a d above 0, Div rounds down.
	return new(big.Int).Div(r.Num(), r.Denom())
}

// plainRound is r, rounded to the nearest whole number, by the chapter's words: the whole numbers below and above it are held against it.
func plainRound(r *big.Rat) *big.Int {
	below := plainFloor(r)
	above := new(big.Int).Add(below, big.NewInt(1))
	toBelow := new(big.Rat).Sub(r, new(big.Rat).SetInt(below))
	toAbove := new(big.Rat).Sub(new(big.Rat).SetInt(above), r)
	if toBelow.Cmp(toAbove) < 0 {
		return below
	}
	return above
}

// plainCeil is the least whole number that isn't below r.
func plainCeil(r *big.Rat) *big.Int {
	below := plainFloor(r)
	if new(big.Rat).SetInt(below).Cmp(r) == 0 {
		return below
	}
	return below.Add(below, big.NewInt(1))
}

// stands is the number that a stands for.
func stands(a int64) *big.Rat {
	return big.NewRat(a, one)
}

// plainRight is: from -MaxFix to MaxFix.
func plainRight(a *big.Int) bool {
	return a.CmpAbs(big.NewInt(maxFix)) <= 0
}

// plainDot is what P5.2 says.
func plainDot(l []int64) (int64, bool) {
	if len(l) > 8 {
		return 0, false
	}
	for _, a := range l {
		if !plainRight(big.NewInt(a)) {
			return 0, false
		}
	}
	sum := new(big.Rat)
	for k := 0; k < len(l); k += 2 {
		by := int64(one)
		if k+1 < len(l) {
			by = l[k+1]
		}
		product := new(big.Int).Mul(big.NewInt(l[k]), big.NewInt(by))
		sum.Add(sum, new(big.Rat).SetFrac(product, big.NewInt(one)))
	}
	if x := plainRound(sum); plainRight(x) {
		return x.Int64(), true
	}
	return 0, false
}

// within is a number from -most to most, as often a small as a great one.
func within(next func() uint64, most int64) int64 {
	x := int64(next()>>1>>(next()%63)) % (most + 1)
	if next()%2 == 0 {
		return -x
	}
	return x
}

// about is the numbers beside those, three on each side.
func about(l ...int64) []int64 {
	var out []int64
	for _, a := range l {
		for by := int64(-3); by <= 3; by++ {
			out = append(out, a+by)
		}
	}
	return out
}

// rightOnes is right numbers, those at the bounds, at whole ones and at halves among them.
func rightOnes() []int64 {
	var l []int64
	for _, a := range about(0, one/2, -one/2, one, -one, 3*one/2, -3*one/2, 2*one, -2*one, 1<<29, -1<<29, maxFix-one, one-maxFix, maxFix, -maxFix) {
		if a >= -maxFix && a <= maxFix {
			l = append(l, a)
		}
	}
	return l
}

// round fails if Round doesn't tell the ratio, rounded.
func round(t *testing.T, n, d int64) {
	t.Helper()
	if got, want := fix.Round(n, d), plainRound(big.NewRat(n, d)); want.Cmp(big.NewInt(got)) != 0 {
		t.Fatalf("Round(%d, %d): %d, not %s", n, d, got, want)
	}
}

// mul fails if Mul doesn't tell the product, either way round.
func mul(t *testing.T, a, b int64) {
	t.Helper()
	product := new(big.Rat).Mul(stands(a), stands(b))
	want := plainRound(product.Mul(product, big.NewRat(one, 1)))
	if got := fix.Mul(a, b); want.Cmp(big.NewInt(got)) != 0 || fix.Mul(b, a) != got {
		t.Fatalf("Mul(%d, %d): %d, and turned %d, not %s", a, b, got, fix.Mul(b, a), want)
	}
}

// floorAndCeil fails if Floor or Ceil doesn't tell its whole number.
func floorAndCeil(t *testing.T, a int64) {
	t.Helper()
	if got, want := fix.Floor(a), plainFloor(stands(a)); want.Cmp(big.NewInt(got)) != 0 {
		t.Fatalf("Floor(%d): %d, not %s", a, got, want)
	}
	if got, want := fix.Ceil(a), plainCeil(stands(a)); want.Cmp(big.NewInt(got)) != 0 {
		t.Fatalf("Ceil(%d): %d, not %s", a, got, want)
	}
}

// dot fails if Dot doesn't tell the sum of products, and changes what it is given.
func dot(t *testing.T, l ...int64) {
	t.Helper()
	given := append([]int64(nil), l...)
	want, right := plainDot(given)
	if got, ok := fix.Dot(l...); got != want || ok != right {
		t.Fatalf("Dot of %d: %d, %v, not %d, %v", given, got, ok, want, right)
	}
	for k := range l {
		if l[k] != given[k] {
			t.Fatalf("Dot of %d left %d", given, l)
		}
	}
}
