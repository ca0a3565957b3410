package raster

import (
	"cmp"
	"iter"
	"slices"

	"mutoscope/flat"
	"mutoscope/rect"
)

// group is rectangles that lie near one another. Where very many are painted, an
// item is asked by groups of them, and so for few beside those that it reaches.
type group struct {
	bound rect.Rect // of all of them: of one alone it is that one
	parts []group   // two of them, or none of one rectangle
}

// grouped tells a group of all of l, which has one at least. It works on l itself.
func grouped(l []rect.Rect) group {
	g := group{bound: rect.Rect{}.Join(l...)}
	if len(l) == 1 {
		return g
	}
	wide := g.bound.X1-g.bound.X0 > g.bound.Y1-g.bound.Y0
	slices.SortFunc(l, func(a, b rect.Rect) int {
		if wide {
			return cmp.Compare(a.X0, b.X0)
		}
		return cmp.Compare(a.Y0, b.Y0)
	})
	middle := len(l) / 2
	g.parts = []group{grouped(l[:middle]), grouped(l[middle:])}
	return g
}

// near tells g's rectangles without most of those that i doesn't reach.
func (g *group) near(i *flat.Item) iter.Seq[rect.Rect] {
	return func(yield func(rect.Rect) bool) { g.tell(i, yield) }
}

// tell gives to yield what near tells, as long as that wants more.
func (g *group) tell(i *flat.Item, yield func(rect.Rect) bool) bool {
	if len(g.parts) == 0 {
		return yield(g.bound)
	}
	if !reaches(i, g.bound) {
		return true
	}
	for k := range g.parts {
		if !g.parts[k].tell(i, yield) {
			return false
		}
	}
	return true
}
