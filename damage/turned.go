package damage

import (
	"math"
	"slices"

	"mutoscope/rect"
)

// both is an item that both lists have: its place in the second one, and its
// Bound. Lists of these are in the first one's order.
type both struct {
	place int
	bound rect.Rect
}

// appendTurned appends rectangles in which just the block's pixels are that are in
// the Bounds of two of l that are turned round. Of many items most two may be so,
// but few of these meet, and so a block is cut, again and again, until each item
// that is left in it fills it.
func appendTurned(to []rect.Rect, l []both, block rect.Rect) []rect.Rect {
	fills := func(i both) bool { return block.Within(i.bound) }
	sure, rest := turned(meeting(l, block), fills)
	if slices.ContainsFunc(sure, fills) {
		return append(to, block)
	}
	for _, i := range sure {
		to = append(to, i.bound.Cut(block))
	}
	// What fills the block goes now, too: all that is turned round to it is sure.
	rest, _ = turned(rest, all)
	if len(rest) == 0 {
		return to
	}
	p, q := halves(block, rest)
	return appendTurned(appendTurned(to, rest, p), rest, q)
}

// turned tells those of l that stand the other way round, in the second list, to
// some other one that counts, and those that don't.
func turned(l []both, counts func(i both) bool) (is, isnt []both) {
	least := make([]int, len(l)) // of the places behind, of those that count
	for k, next := len(l)-1, math.MaxInt; k >= 0; k-- {
		least[k] = next
		if counts(l[k]) {
			next = min(next, l[k].place)
		}
	}
	most := 0
	for k, i := range l {
		if i.place < most || i.place > least[k] {
			is = append(is, i)
		} else {
			isnt = append(isnt, i)
		}
		if counts(i) {
			most = max(most, i.place)
		}
	}
	return is, isnt
}

// all is what counts, if each one does.
func all(both) bool { return true }

// meeting tells those of l that have a pixel of the block.
func meeting(l []both, block rect.Rect) []both {
	var out []both
	for _, i := range l {
		if !i.bound.Cut(block).Empty() {
			out = append(out, i)
		}
	}
	return out
}

// halves tells both parts of a block that is cut at one of the edges which lie
// within it: about as many are on either side. Each of l has one there, at least.
func halves(block rect.Rect, l []both) (p, q rect.Rect) {
	var xs, ys []int
	for _, i := range l {
		xs = appendBetween(xs, block.X0, block.X1, i.bound.X0, i.bound.X1)
		ys = appendBetween(ys, block.Y0, block.Y1, i.bound.Y0, i.bound.Y1)
	}
	p, q = block, block
	if len(xs) > len(ys) {
		p.X1 = middle(xs)
		q.X0 = p.X1
	} else {
		p.Y1 = middle(ys)
		q.Y0 = p.Y1
	}
	return p, q
}

// appendBetween appends those of the numbers that lie between two.
func appendBetween(l []int, low, high int, numbers ...int) []int {
	for _, n := range numbers {
		if low < n && n < high {
			l = append(l, n)
		}
	}
	return l
}

// middle tells the number in the middle of l, as it is in order.
func middle(l []int) int {
	slices.Sort(l)
	return l[len(l)/2]
}
