// Package small holds all there is of small numbers, for the tests of all
// layers: what goes wrong at an edge goes wrong at a small one, too.
package small

import "mutoscope/rect"

// Rects tells all rectangles of numbers from least to most, those of turned
// and of same numbers among them.
func Rects(least, most int) []rect.Rect {
	var l []rect.Rect
	for x0 := least; x0 <= most; x0++ {
		for y0 := least; y0 <= most; y0++ {
			for x1 := least; x1 <= most; x1++ {
				for y1 := least; y1 <= most; y1++ {
					l = append(l, rect.Rect{X0: x0, Y0: y0, X1: x1, Y1: y1})
				}
			}
		}
	}
	return l
}
