package region

import (
	"cmp"
	"slices"

	"mutoscope/rect"
)

// touch tells if a pixel of p is one of q, or beside one, corner to corner, too.
func touch(p, q rect.Rect) bool {
	return p.X0 <= q.X1 && q.X0 <= p.X1 && p.Y0 <= q.Y1 && q.Y0 <= p.Y1
}

// with tells the pixels of near and of p: near is all parts that touch p. On
// p's lines all that touches p is one row with it, above and below it stays.
func with(near []rect.Rect, p rect.Rect) []rect.Rect {
	var out, beside []rect.Rect
	for _, q := range near {
		out = append(out, q.Less(rect.Of(q.X0, p.Y0, q.X1, p.Y1))...)
		if q.X0 < p.X0 || q.X1 > p.X1 {
			beside = append(beside, q)
		}
	}
	return append(out, rows(p, beside)...)
}

// without tells the pixels of near that p hasn't.
func without(near []rect.Rect, p rect.Rect) []rect.Rect {
	var out []rect.Rect
	for _, q := range near {
		out = append(out, q.Less(p)...)
	}
	return out
}

// rows tells p's lines, each as wide as it is with what lies beside it: parts
// that reach out of p to its left or right.
func rows(p rect.Rect, beside []rect.Rect) []rect.Rect {
	at := []int{p.Y0, p.Y1}
	for _, q := range beside {
		at = append(at, max(p.Y0, q.Y0), min(p.Y1, q.Y1))
	}
	slices.Sort(at)
	at = slices.Compact(at)
	out := make([]rect.Rect, len(at)-1)
	for k := range out {
		out[k] = rect.Rect{X0: p.X0, Y0: at[k], X1: p.X1, Y1: at[k+1]}
	}
	for _, q := range beside {
		k, _ := slices.BinarySearch(at, q.Y0)
		for ; k < len(out) && out[k].Y0 < q.Y1; k++ {
			out[k].X0, out[k].X1 = min(out[k].X0, q.X0), max(out[k].X1, q.X1)
		}
	}
	return out
}

// stacked makes one of those of l that are as wide, and lie one right on the
// other. It works on l itself.
func stacked(l []rect.Rect) []rect.Rect {
	slices.SortFunc(l, func(a, b rect.Rect) int {
		return cmp.Or(cmp.Compare(a.X0, b.X0), cmp.Compare(a.Y0, b.Y0))
	})
	out := l[:0]
	for _, q := range l {
		if n := len(out); n > 0 && out[n-1] == (rect.Rect{X0: q.X0, Y0: out[n-1].Y0, X1: q.X1, Y1: q.Y0}) {
			out[n-1].Y1 = q.Y1
		} else {
			out = append(out, q)
		}
	}
	return out
}
