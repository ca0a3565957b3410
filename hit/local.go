package hit

import (
	"mutoscope/api"
	"mutoscope/fix"
	"mutoscope/flat"
	"mutoscope/scene"
)

// Local tells where the centre of the pixel x, y lies on the node id: in which
// pixel of it.
func Local(s *scene.Scene, id, x, y int) (u, v int, ok bool) {
	w, ok := s.World(id)
	b, e := w.Back()
	if !ok || e != api.OK {
		return 0, 0, false
	}
	// Layer 8 takes back no point that is as far as a pixel may be here. But from
	// each centre to the next a way back goes by the same numbers, to the last bit,
	// as a step is a whole pixel: so a far centre is reckoned by its steps.
	at, right, down := b.Take(flat.Centre(0, 0)), b.Take(flat.Centre(1, 0)), b.Take(flat.Centre(0, 1))
	u = floor(at.X, steps{x, right.X - at.X}, steps{y, down.X - at.X})
	v = floor(at.Y, steps{x, right.Y - at.Y}, steps{y, down.Y - at.Y})
	return u, v, true
}

// steps is n steps, each of so long a number.
type steps struct {
	n    int
	each int64
}

// floor tells the Floor of a number and all these steps more.
func floor(a int64, l ...steps) int {
	whole := int64(0)
	for _, s := range l {
		// 2^16 steps, each a number of 2^16ths, are as many whole pixels. These
		// may have room where that number of 2^16ths hasn't.
		whole += s.each * int64(s.n>>16)
		a += s.each * int64(s.n&(api.One-1))
	}
	return int(whole + fix.Floor(a))
}
