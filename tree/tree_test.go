package tree_test

import (
	"iter"
	"math"
	"slices"
	"testing"

	"mutoscope/api"
	"mutoscope/noise"
	"mutoscope/tree"
)

// The calls that the chapter lists, by their signatures.
var (
	_ func() *tree.Tree                                   = tree.New
	_ func(t *tree.Tree, id, parent, place int) api.Errno = (*tree.Tree).Add
	_ func(t *tree.Tree, id int) ([]int, api.Errno)       = (*tree.Tree).Remove
	_ func(t *tree.Tree, id, parent, place int) api.Errno = (*tree.Tree).Move
	_ func(t *tree.Tree, ids ...int) bool                 = (*tree.Tree).Has
	_ func(t *tree.Tree, id int) int                      = (*tree.Tree).Parent
	_ func(t *tree.Tree, id int) []int                    = (*tree.Tree).Kids
	_ func(t *tree.Tree, id, other int) bool              = (*tree.Tree).Within
	_ func(t *tree.Tree) int                              = (*tree.Tree).Len
	_ func(t *tree.Tree) iter.Seq2[int, int]              = (*tree.Tree).Walk
	_ func(t *tree.Tree) *tree.Tree                       = (*tree.Tree).Clone
	_ func(a, b *tree.Tree) bool                          = tree.Same
)

// P12.1, P12.2: the chapter's example.
func TestExample(t *testing.T) {
	x := tree.New()
	if x.Add(5, 0, 0) != api.OK || x.Add(7, 0, 0) != api.OK || x.Add(6, 5, 0) != api.OK {
		t.Error("refused")
	}
	stands(t, x, plain{{0, 0}, {7, 1}, {5, 1}, {6, 2}}, upTo(8))
}

// P12.1: New is the root alone; two of them share nothing.
func TestNew(t *testing.T) {
	x, y := tree.New(), tree.New()
	stands(t, x, plain{{0, 0}}, far())
	if !x.Has() || !tree.Same(x, y) {
		t.Errorf("Has %v, Same %v", x.Has(), tree.Same(x, y))
	}
	x.Add(1, 0, 0)
	stands(t, y, plain{{0, 0}}, upTo(2))
}

// by is the tree 0 (1 (3 4 (5)) 2), that tests by hand begin with.
func by() plain {
	return plain{{0, 0}, {1, 1}, {3, 2}, {4, 2}, {5, 3}, {2, 1}}
}

// P12.1: each error by hand, and which comes ahead of which; none of them changes anything.
func TestErrorsByHand(t *testing.T) {
	const none, wrong = 9, -1
	for _, c := range []struct {
		o op
		e api.Errno
	}{
		{op{"add", 0, none, wrong}, api.ErrRange}, {op{"add", 0, 0, 0}, api.ErrRange}, {op{"add", -1, 0, 0}, api.ErrRange}, {op{"add", 65536, 0, 0}, api.ErrRange}, {op{"add", math.MinInt, 0, 0}, api.ErrRange}, {op{"add", math.MaxInt, none, 0}, api.ErrRange}, {op{"add", 1<<32 + 6, 0, 0}, api.ErrRange},
		{op{"add", 1, none, wrong}, api.ErrHave}, {op{"add", 5, 0, 0}, api.ErrHave}, {op{"add", 2, 2, 0}, api.ErrHave},
		{op{"add", 6, none, wrong}, api.ErrParent}, {op{"add", 6, 6, 0}, api.ErrParent}, {op{"add", 65535, -1, 0}, api.ErrParent}, {op{"add", 6, 1 << 32, 0}, api.ErrParent}, {op{"add", 6, 65536, 0}, api.ErrParent},
		{op{"add", 6, 0, wrong}, api.ErrPlace}, {op{"add", 6, 0, 3}, api.ErrPlace}, {op{"add", 6, 5, 1}, api.ErrPlace}, {op{"add", 6, 1, math.MaxInt}, api.ErrPlace}, {op{"add", 6, 1, math.MinInt}, api.ErrPlace}, {op{"add", 6, 1, 1 << 32}, api.ErrPlace},
		{op{"remove", 0, 0, 0}, api.ErrRoot}, {op{"remove", none, 0, 0}, api.ErrNode}, {op{"remove", -1, 0, 0}, api.ErrNode}, {op{"remove", 65536, 0, 0}, api.ErrNode}, {op{"remove", 1 << 32, 0, 0}, api.ErrNode}, {op{"remove", 1<<32 + 1, 0, 0}, api.ErrNode},
		{op{"move", 0, none, wrong}, api.ErrRoot}, {op{"move", 0, 0, 0}, api.ErrRoot}, {op{"move", 0, 5, 0}, api.ErrRoot}, {op{"move", none, none, wrong}, api.ErrNode}, {op{"move", none, 0, 0}, api.ErrNode}, {op{"move", -1, 0, 0}, api.ErrNode}, {op{"move", 65536, 0, 0}, api.ErrNode}, {op{"move", 1 << 32, 0, 0}, api.ErrNode},
		{op{"move", 1, none, wrong}, api.ErrParent}, {op{"move", 1, -1, 0}, api.ErrParent}, {op{"move", 1, 1<<32 + 1, 0}, api.ErrParent},
		{op{"move", 1, 1, wrong}, api.ErrCycle}, {op{"move", 5, 5, 0}, api.ErrCycle}, {op{"move", 1, 4, wrong}, api.ErrCycle}, {op{"move", 1, 5, 0}, api.ErrCycle}, {op{"move", 1, 5, 9}, api.ErrCycle}, {op{"move", 4, 5, 0}, api.ErrCycle},
		{op{"move", 1, 0, wrong}, api.ErrPlace}, {op{"move", 1, 0, 2}, api.ErrPlace}, {op{"move", 2, 1, 3}, api.ErrPlace}, {op{"move", 3, 1, 2}, api.ErrPlace}, {op{"move", 3, 2, 1}, api.ErrPlace}, {op{"move", 5, 1, math.MinInt}, api.ErrPlace}, {op{"move", 5, 1, math.MaxInt}, api.ErrPlace},
	} {
		x := of(by())
		if gone, e := run(x, c.o); e != c.e || len(gone) != 0 {
			t.Errorf("%v: %v, %d, not %d", c.o, gone, e, c.e)
		}
		stands(t, x, by(), upTo(7))
	}
}

// P12.1: what isn't refused, by hand, at the first and the last place too.
func TestChangesByHand(t *testing.T) {
	for _, c := range []struct {
		o    op
		want plain
	}{
		{op{"add", 6, 0, 0}, plain{{0, 0}, {6, 1}, {1, 1}, {3, 2}, {4, 2}, {5, 3}, {2, 1}}},
		{op{"add", 6, 0, 1}, plain{{0, 0}, {1, 1}, {3, 2}, {4, 2}, {5, 3}, {6, 1}, {2, 1}}},
		{op{"add", 6, 0, 2}, plain{{0, 0}, {1, 1}, {3, 2}, {4, 2}, {5, 3}, {2, 1}, {6, 1}}},
		{op{"add", 65535, 5, 0}, plain{{0, 0}, {1, 1}, {3, 2}, {4, 2}, {5, 3}, {65535, 4}, {2, 1}}},
		{op{"remove", 1, 0, 0}, plain{{0, 0}, {2, 1}}},
		{op{"remove", 4, 0, 0}, plain{{0, 0}, {1, 1}, {3, 2}, {2, 1}}},
		{op{"remove", 2, 0, 0}, plain{{0, 0}, {1, 1}, {3, 2}, {4, 2}, {5, 3}}},
		{op{"move", 1, 0, 1}, plain{{0, 0}, {2, 1}, {1, 1}, {3, 2}, {4, 2}, {5, 3}}},
		{op{"move", 1, 0, 0}, by()},
		{op{"move", 3, 1, 1}, plain{{0, 0}, {1, 1}, {4, 2}, {5, 3}, {3, 2}, {2, 1}}},
		{op{"move", 2, 1, 1}, plain{{0, 0}, {1, 1}, {3, 2}, {2, 2}, {4, 2}, {5, 3}}},
		{op{"move", 4, 0, 2}, plain{{0, 0}, {1, 1}, {3, 2}, {2, 1}, {4, 1}, {5, 2}}},
		{op{"move", 1, 2, 0}, plain{{0, 0}, {2, 1}, {1, 2}, {3, 3}, {4, 3}, {5, 4}}},
	} {
		x := of(by())
		if _, e := run(x, c.o); e != api.OK {
			t.Errorf("%v: %d", c.o, e)
		}
		stands(t, x, c.want, append(upTo(7), 65535))
	}
}

// P12.1: an id that is gone may be there again, elsewhere, without what lay within it.
func TestAgain(t *testing.T) {
	x := of(by())
	if gone, e := x.Remove(1); e != api.OK || !slices.Equal(gone, []int{1, 3, 4, 5}) {
		t.Errorf("Remove: %v, %d", gone, e)
	}
	if x.Add(4, 2, 0) != api.OK || x.Add(1, 4, 0) != api.OK {
		t.Error("refused")
	}
	stands(t, x, plain{{0, 0}, {2, 1}, {4, 2}, {1, 3}}, upTo(7))
}

// P12.1, P12.2: each small tree, and each call with small numbers.
func TestAllSmallOnes(t *testing.T) {
	l := ops(upTo(5), upTo(5), upTo(4))
	for _, p := range smallTrees(4) {
		made := of(p)
		stands(t, made, p, upTo(5))
		for _, o := range l {
			x := made.Clone()
			stands(t, x, both(t, x, p, o), upTo(5))
		}
		stands(t, made, p, upTo(5))
	}
}

// P12.1, P12.2: each small tree, and each call with numbers that are mostly far from what there is.
func TestFarNumbers(t *testing.T) {
	ids := append(far(), 1, 2, 3)
	l := ops(ids, append(far(), 2), append(far(), 1))
	for k, p := range smallTrees(3) {
		if k%7 != 3 {
			continue
		}
		stands(t, of(p), p, ids)
		x := of(p)
		for _, o := range l {
			if behind := both(t, x, p, o); !slices.Equal(behind, p) {
				stands(t, x, behind, append(upTo(4), 255, 256, 65534, 65535))
				x = of(p)
			}
		}
		stands(t, x, p, ids)
	}
}

// P12.1, P12.2: rows of calls, with a clone that is taken now and then, goes on
// its own way, and takes the other's place now and then.
func TestWalks(t *testing.T) {
	for seed := range 400 {
		next := noise.Numbers(uint64(seed))
		below := func(n int) int { return int(next() % uint64(n)) }
		most := 3 + below(30)
		draw := func() op {
			call := []string{"add", "add", "add", "move", "move", "move", "move", "remove"}[below(8)]
			return op{call, below(most+2) - 1, below(most+2) - 1, below(6) - 1}
		}
		x, p := tree.New(), plain{{0, 0}}
		other, q := x.Clone(), p
		for range 300 {
			p = both(t, x, p, draw())
			switch below(12) {
			case 0:
				other, q = x.Clone(), p
			case 1:
				x, p, other, q = other, q, x, p
			case 2:
				q = both(t, other, q, draw())
			}
			if tree.Same(x, other) != slices.Equal(p, q) {
				t.Fatalf("Same of %v and %v: %v", p, q, tree.Same(x, other))
			}
		}
		stands(t, x, p, upTo(most))
		stands(t, other, q, upTo(most))
	}
}

// P12.2: Has of any number of ids, with one that isn't there at each place.
func TestHas(t *testing.T) {
	x := of(by())
	all := []int{5, 0, 0, 3, 1, 2, 4, 5}
	if !x.Has() || !x.Has(nil...) || !x.Has(all...) {
		t.Errorf("%v, %v, %v", x.Has(), x.Has(nil...), x.Has(all...))
	}
	for k := range all {
		for _, id := range far()[1:] {
			l := slices.Clone(all)
			l[k] = id
			if x.Has(l...) {
				t.Errorf("Has(%v)", l)
			}
		}
	}
}

// backwards is a tree of the nodes of p, made from the last one on, each moved
// to where it belongs as soon as its parent is there.
func backwards(p plain) *tree.Tree {
	x := tree.New()
	for k := len(p) - 1; k > 0; k-- {
		x.Add(p[k].id, 0, 0)
		for _, kid := range slices.Backward(p.kids(p[k].id)) {
			x.Move(kid, p[k].id, 0)
		}
	}
	return x
}

// P12.2: Same of each two small trees, made in two ways.
func TestSame(t *testing.T) {
	l := smallTrees(4)
	if len(l) != 485 {
		t.Fatalf("%d trees", len(l))
	}
	var made []*tree.Tree
	for _, p := range l {
		made = append(made, of(p))
	}
	for k, p := range l {
		x := backwards(p)
		stands(t, x, p, upTo(5))
		for j, y := range made {
			if tree.Same(x, y) != (j == k) || tree.Same(y, x) != (j == k) {
				t.Fatalf("Same of %v and %v: %v, %v", p, l[j], tree.Same(x, y), tree.Same(y, x))
			}
		}
		if !tree.Same(x, x) || !tree.Same(x, x.Clone()) || !tree.Same(made[k].Clone(), x) {
			t.Fatalf("Same of %v and %v", p, p)
		}
	}
}
