// Package crc is layer 1, a sum of bytes, by which torn ones are known: see shared/doc/01-crc.md.
package crc

// ones is what the sum begins with, and what it is exclusively ored with at last.
const ones = 1<<32 - 1

// table has in its row k, at the place i, what 4 (k + 1) of the chapter's
// steps make of i (a step is half of a number, ored if that was odd). What
// steps make of a number is what they make of its groups of four bits,
// exclusively ored: so a row of 16 does, where one of 256, for a whole byte,
// would be more than may stand at package level.
var table = [8][16]uint32{
	{
		0x00000000, 0x1db71064, 0x3b6e20c8, 0x26d930ac, 0x76dc4190, 0x6b6b51f4, 0x4db26158, 0x5005713c,
		0xedb88320, 0xf00f9344, 0xd6d6a3e8, 0xcb61b38c, 0x9b64c2b0, 0x86d3d2d4, 0xa00ae278, 0xbdbdf21c,
	},
	{
		0x00000000, 0x77073096, 0xee0e612c, 0x990951ba, 0x076dc419, 0x706af48f, 0xe963a535, 0x9e6495a3,
		0x0edb8832, 0x79dcb8a4, 0xe0d5e91e, 0x97d2d988, 0x09b64c2b, 0x7eb17cbd, 0xe7b82d07, 0x90bf1d91,
	},
	{
		0x00000000, 0x4ac21251, 0x958424a2, 0xdf4636f3, 0xf0794f05, 0xbabb5d54, 0x65fd6ba7, 0x2f3f79f6,
		0x3b83984b, 0x71418a1a, 0xae07bce9, 0xe4c5aeb8, 0xcbfad74e, 0x8138c51f, 0x5e7ef3ec, 0x14bce1bd,
	},
	{
		0x00000000, 0x191b3141, 0x32366282, 0x2b2d53c3, 0x646cc504, 0x7d77f445, 0x565aa786, 0x4f4196c7,
		0xc8d98a08, 0xd1c2bb49, 0xfaefe88a, 0xe3f4d9cb, 0xacb54f0c, 0xb5ae7e4d, 0x9e832d8e, 0x87981ccf,
	},
	{
		0x00000000, 0x1c26a370, 0x384d46e0, 0x246be590, 0x709a8dc0, 0x6cbc2eb0, 0x48d7cb20, 0x54f16850,
		0xe1351b80, 0xfd13b8f0, 0xd9785d60, 0xc55efe10, 0x91af9640, 0x8d893530, 0xa9e2d0a0, 0xb5c473d0,
	},
	{
		0x00000000, 0x01c26a37, 0x0384d46e, 0x0246be59, 0x0709a8dc, 0x06cbc2eb, 0x048d7cb2, 0x054f1685,
		0x0e1351b8, 0x0fd13b8f, 0x0d9785d6, 0x0c55efe1, 0x091af964, 0x08d89353, 0x0a9e2d0a, 0x0b5c473d,
	},
	{
		0x00000000, 0x5019579f, 0xa032af3e, 0xf02bf8a1, 0x9b14583d, 0xcb0d0fa2, 0x3b26f703, 0x6b3fa09c,
		0xed59b63b, 0xbd40e1a4, 0x4d6b1905, 0x1d724e9a, 0x764dee06, 0x2654b999, 0xd67f4138, 0x866616a7,
	},
	{
		0x00000000, 0xb8bc6765, 0xaa09c88b, 0x12b5afee, 0x8f629757, 0x37def032, 0x256b5fdc, 0x9dd738b9,
		0xc5b428ef, 0x7d084f8a, 0x6fbde064, 0xd7018701, 0x4ad6bfb8, 0xf26ad8dd, 0xe0df7733, 0x58631056,
	},
}

// Sum tells the sum of all bytes of all parts, one behind the other.
func Sum(parts ...[]byte) uint32 {
	r := uint32(ones)
	for _, p := range parts {
		r = row(r, p)
	}
	return r ^ ones
}

// Next tells the sum of the bytes whose sum is given, and b behind them.
func Next(sum uint32, b byte) uint32 {
	return one(sum^ones, b) ^ ones
}

// row takes four bytes at a time as far as there are four: whole pictures are
// summed at each tick, and looks into the table that don't wait for each other
// take a third of the time.
func row(r uint32, p []byte) uint32 {
	for len(p) >= 4 {
		r = four(r, p[0], p[1], p[2], p[3])
		p = p[4:]
	}
	for _, b := range p {
		r = one(r, b)
	}
	return r
}

func one(r uint32, b byte) uint32 {
	r ^= uint32(b)
	return r>>8 ^ table[1][r&15] ^ table[0][r>>4&15]
}

func four(r uint32, a, b, c, d byte) uint32 {
	r ^= uint32(a) | uint32(b)<<8 | uint32(c)<<16 | uint32(d)<<24
	return table[7][r&15] ^ table[6][r>>4&15] ^
		table[5][r>>8&15] ^ table[4][r>>12&15] ^
		table[3][r>>16&15] ^ table[2][r>>20&15] ^
		table[1][r>>24&15] ^ table[0][r>>28]
}
