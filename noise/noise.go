// Package noise holds numbers, bytes, pixels and images without a pattern, for the
// tests of all layers: what a seed begins is the same in each run, so that a test
// that fails fails again.
package noise

import (
	"mutoscope/image"
	"mutoscope/pixel"
)

// Numbers tells a row of numbers, one by each call.
func Numbers(seed uint64) func() uint64 {
	r := seed*0x9e3779b97f4a7c15 + 1
	return func() uint64 {
		r = r*6364136223846793005 + 1442695040888963407
		// The low bits of r alone come again too soon.
		x := r ^ r>>33
		x *= 0xff51afd7ed558ccd
		return x ^ x>>29
	}
}

// Bytes tells n bytes: those of another n begin otherwise.
func Bytes(n int) []byte {
	l := make([]byte, max(0, n))
	r := uint32(n)*2654435761 + 1
	for i := range l {
		r = r*1664525 + 1013904223
		l[i] = byte(r >> 24)
	}
	return l
}

// Pixel tells a right pixel, made of the numbers that next tells. Of each part
// half are the least or the greatest that there may be, as what goes wrong does
// so at these.
func Pixel(next func() uint64) pixel.Pixel {
	upTo := func(most uint64) uint64 {
		switch next() % 4 {
		case 0:
			return most
		case 1:
			return 0
		}
		return next() % (most + 1)
	}
	a := upTo(255)
	return pixel.Pixel(upTo(a)<<24 | upTo(a)<<16 | upTo(a)<<8 | a)
}

// Image tells an image of w by h such pixels: it is right, if its sides may be.
func Image(next func() uint64, w, h int) image.Image {
	m, _ := image.New(w, h)
	for k := range m.Pixels {
		m.Pixels[k] = Pixel(next)
	}
	return m
}
