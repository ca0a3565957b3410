package affine

import (
	"mutoscope/api"
	"mutoscope/fix"
)

// Back is a map's way back: it takes a point x, y to a u + c v, b u + d v, with
// u = x - e, v = y - f.
type Back struct{ a, b, c, d, e, f int64 }

// Back tells the way back of m.
func (m Map) Back() (Back, api.Errno) {
	if !m.Right() {
		return Back{}, api.ErrRange
	}
	// Of right numbers, up to 2^61.
	det := m.A*m.D - m.B*m.C
	if det == 0 {
		return Back{}, api.ErrSingular
	}
	b := Back{over(m.D, det), over(-m.B, det), over(-m.C, det), over(m.A, det), m.E, m.F}
	if !fix.Right(b.a, b.b, b.c, b.d) {
		return Back{}, api.ErrOver
	}
	return b, api.OK
}

// Take tells the point that p is taken back to.
func (b Back) Take(p Point) Point {
	u, v := p.X-b.e, p.Y-b.f
	return Point{whole(b.a*u + b.c*v), whole(b.b*u + b.d*v)}
}

// over tells the ratio of a right number and a determinant, that isn't 0, as a
// number.
func over(n, det int64) int64 {
	if det < 0 {
		n, det = -n, -det
	}
	return fix.Round(n*api.One*api.One, det)
}

// whole tells n / 2^16, rounded. A point's products, added, can be more than
// layer 5 rounds, so only what stands behind the point is.
func whole(n int64) int64 {
	return n>>16 + fix.Round(n&(api.One-1), api.One)
}
