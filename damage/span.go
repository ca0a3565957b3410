package damage

import "math"

// rough is how fine a ratio is: the products that it is reckoned from, divided by
// this, are more than it can be wrong by, rounded as it is five times to 53 bits.
const rough = 1 << 50

// span is the numbers from least to most.
type span struct{ least, most float64 }

// ratio tells a span that has the number (a b - c d) / det.
func ratio(a, b, c, d, det int64) span {
	// What is converted is rounded on each machine, so that all tell the same.
	p, q := float64(float64(a)*float64(b)), float64(float64(c)*float64(d))
	n := (p - q) / float64(det)
	off := (math.Abs(p) + math.Abs(q)) / math.Abs(float64(det)) / rough
	return span{n - off, n + off}
}

// join tells the least span that has all numbers of s and t.
func (s span) join(t span) span {
	return span{min(s.least, t.least), max(s.most, t.most)}
}

// whole tells the whole numbers of s that are from 0 to below n: from the first
// one told to below the second one.
func (s span) whole(n int) (from, to int) {
	within := func(x float64) int { return int(max(0, min(float64(n), x))) }
	return within(math.Ceil(s.least)), within(math.Floor(s.most) + 1)
}
