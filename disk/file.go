package disk

import "slices"

// file is a file's bytes. Those behind the first synced ones are its tail.
type file struct {
	data   []byte
	synced int
}

// crash leaves of the tail what c chooses, and tells how many bytes are lost.
func (f *file) crash(c Choice) int {
	tail := f.data[f.synced:]
	stays := tail[:c.Keep%uint(len(tail)+1)]
	if len(stays) > 0 {
		stays[c.At%uint(len(stays))] ^= c.Flip
	}
	f.data = f.data[:f.synced+len(stays)]
	f.synced = len(f.data)
	return len(tail) - len(stays)
}

// copy tells the same file in new memory.
func (f *file) copy() *file {
	return &file{data: slices.Clone(f.data), synced: f.synced}
}
