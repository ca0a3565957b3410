package hit_test

import (
	"math/big"
	"slices"
	"testing"

	"mutoscope/affine"
	"mutoscope/api"
	"mutoscope/flat"
	"mutoscope/hit"
	"mutoscope/node"
	"mutoscope/pixel"
	"mutoscope/scene"
	"mutoscope/scenery"
)

const one = api.One

// plainAll is the ids of all items that cover a pixel, by the chapter's words: from the top down is the list's order the other way round.
func plainAll(l []flat.Item, x, y int) []int {
	var ids []int
	for _, i := range l {
		if x >= -16384 && x <= 16383 && y >= -16384 && y <= 16383 && i.Covers(x, y) {
			ids = append([]int{i.Id}, ids...)
		}
	}
	return ids
}

// plainLocal is where a pixel's centre lies on a node, in numbers of any size, and whether the node's world has a way back.
func plainLocal(s *scene.Scene, id, x, y int) (u, v *big.Int, ok bool) {
	w, ok := s.World(id)
	if !ok {
		return nil, nil, false
	}
	det := sum(product(w.A, w.D), negative(product(w.B, w.C)))
	if det.Sign() == 0 {
		return nil, nil, false
	}
	var back [4]*big.Int
	for k, n := range []int64{w.D, -w.B, -w.C, w.A} {
		back[k] = rounded(new(big.Int).Lsh(big.NewInt(n), 32), det)
		if back[k].CmpAbs(big.NewInt(1<<30)) > 0 {
			return nil, nil, false
		}
	}
	p, q := sum(centre(x), big.NewInt(-w.E)), sum(centre(y), big.NewInt(-w.F))
	taken := func(a, c *big.Int) *big.Int {
		n := sum(new(big.Int).Mul(a, p), new(big.Int).Mul(c, q))
		return down(rounded(n, big.NewInt(1<<16)), big.NewInt(1<<16))
	}
	return taken(back[0], back[2]), taken(back[1], back[3]), true
}

func centre(n int) *big.Int {
	return sum(product(int64(n), 1<<16), big.NewInt(1<<15))
}

func product(a, b int64) *big.Int {
	return new(big.Int).Mul(big.NewInt(a), big.NewInt(b))
}

func sum(a, b *big.Int) *big.Int {
	return new(big.Int).Add(a, b)
}

func negative(a *big.Int) *big.Int {
	return new(big.Int).Neg(a)
}

// rounded is n / d to the nearest whole number, of two that are as near to the greater one.
func rounded(n, d *big.Int) *big.Int {
	if d.Sign() < 0 {
		n, d = negative(n), negative(d)
	}
	return down(sum(sum(n, n), d), sum(d, d))
}

// down is the greatest whole number that isn't above n / d, of a d above 0.
func down(n, d *big.Int) *big.Int {
	return new(big.Int).Div(n, d)
}

// asked is what All tells, after it, and At, were held against the chapter's words.
func asked(t *testing.T, s *scene.Scene, l []flat.Item, x, y int) []int {
	t.Helper()
	all, want := hit.All(s, x, y), plainAll(l, x, y)
	if !slices.Equal(all, want) {
		t.Fatalf("All(%d, %d): %v, not %v", x, y, all, want)
	}
	id, ok := hit.At(s, x, y)
	if ok != (len(want) > 0) || ok && id != want[0] || !ok && id != 0 {
		t.Fatalf("At(%d, %d): %d, %v, not the first of %v", x, y, id, ok, want)
	}
	return all
}

// placed is whether Local tells where a pixel lies, after that was held against the chapter's words; of numbers that an int has no room for nothing is asked.
func placed(t *testing.T, s *scene.Scene, id, x, y int) bool {
	t.Helper()
	u, v, ok := hit.Local(s, id, x, y)
	wantU, wantV, want := plainLocal(s, id, x, y)
	if ok != want || !ok && (u != 0 || v != 0) {
		t.Fatalf("Local(%d, %d, %d): %d, %d, %v, not %v", id, x, y, u, v, ok, want)
	}
	if ok && (wantU.IsInt64() && wantU.Int64() != int64(u) || wantV.IsInt64() && wantV.Int64() != int64(v)) {
		w, _ := s.World(id)
		t.Fatalf("%v: Local(%d, %d, %d): %d, %d, not %d, %d", w, id, x, y, u, v, wantU, wantV)
	}
	return ok
}

func do(t *testing.T, s *scene.Scene, l ...scene.Op) {
	t.Helper()
	if at, e := s.Apply(l...); at != len(l) || e != api.OK {
		t.Fatalf("Apply %v: %d, %d", l, at, e)
	}
}

// fill is a node of w by h pixels of that colour, at whole pixels.
func fill(x, y, w, h int, c pixel.Pixel) node.Node {
	return scenery.With(func(n *node.Node) {
		n.Map, n.Look = affine.Shift(int64(x)*one, int64(y)*one), node.FillOf(w, h, c)
	})
}
