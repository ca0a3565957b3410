package rec_test

import (
	"bytes"
	"slices"
	"testing"

	"mutoscope/api"
	"mutoscope/noise"
	"mutoscope/rec"
)

// plainNumber is the bytes of a number, by layer 2's words: its lowest seven
// bits, and 128 more if there are higher ones; then these likewise.
func plainNumber(n int) []byte {
	if n < 128 {
		return []byte{byte(n)}
	}
	return append([]byte{byte(128 + n%128)}, plainNumber(n/128)...)
}

// plainSum is the four bytes of a sum, by layer 1's words, the lowest one first.
func plainSum(b []byte) []byte {
	r := uint32(0xffffffff)
	for _, x := range b {
		r ^= uint32(x)
		for range 8 {
			if r%2 == 1 {
				r = r/2 ^ 0xedb88320
			} else {
				r = r / 2
			}
		}
	}
	r ^= 0xffffffff
	return []byte{byte(r % 256), byte(r / 256 % 256), byte(r / 65536 % 256), byte(r / 16777216)}
}

// sealed is b, and its sum behind it.
func sealed(b []byte) []byte {
	return slices.Concat(b, plainSum(b))
}

// plainBytes is a right record's bytes, by the chapter's words.
func plainBytes(r rec.Rec) []byte {
	return sealed(slices.Concat(plainNumber(len(r.Data)), []byte{byte(r.Kind)}, r.Data))
}

// plainRow is the bytes of right records, one behind the other.
func plainRow(l ...rec.Rec) []byte {
	var b []byte
	for _, r := range l {
		b = append(b, plainBytes(r)...)
	}
	return b
}

// plainLength is the number with which b begins, by layer 2's words, and how
// many bytes it has; one of ten bytes is told as 2^62, as it may be more than an
// int has.
func plainLength(b []byte) (n, size int, e api.Errno) {
	last := 0
	for last < len(b) && b[last] >= 128 {
		last++
	}
	switch {
	case last >= 10, last == 9 && last < len(b) && b[9] > 1:
		return 0, 0, api.ErrForm
	case last == len(b):
		return 0, 0, api.ErrShort
	case last > 0 && b[last] == 0:
		return 0, 0, api.ErrForm
	case last == 9:
		return 1 << 62, 10, api.OK
	}
	for k := last; k >= 0; k-- {
		n = 128*n + int(b[k]%128)
	}
	return n, last + 1, api.OK
}

// plainNext is what P4.2 says of the record with which b begins.
func plainNext(b []byte) (r rec.Rec, size int, e api.Errno) {
	n, number, e := plainLength(b)
	switch {
	case e != api.OK:
		return rec.Rec{}, 0, e
	case n > 1<<20:
		return rec.Rec{}, 0, api.ErrBig
	case len(b) < number+1+n+4:
		return rec.Rec{}, 0, api.ErrShort
	}
	end := number + 1 + n
	if !bytes.Equal(plainSum(b[:end]), b[end:end+4]) {
		return rec.Rec{}, 0, api.ErrSum
	}
	return rec.Rec{Kind: int(b[number]), Data: b[number+1 : end]}, end + 4, api.OK
}

// plainAll is what P4.2 says of the records of b.
func plainAll(b []byte) (l []rec.Rec, good int, e api.Errno) {
	for good < len(b) {
		r, size, e := plainNext(b[good:])
		if e != api.OK {
			return l, good, e
		}
		l = append(l, r)
		good += size
	}
	return l, good, api.OK
}

// brief is b, or its first bytes, if there are many.
func brief(b []byte) []byte {
	return b[:min(len(b), 30)]
}

// alike is: the same Kind and Data, held against each other field by field.
func alike(a, b rec.Rec) bool {
	return a.Kind == b.Kind && string(a.Data) == string(b.Data)
}

// made fails if Bytes doesn't tell the records' bytes, and hands these on.
func made(t *testing.T, l ...rec.Rec) []byte {
	t.Helper()
	b, e := rec.Bytes(l...)
	if want := plainRow(l...); e != api.OK || !bytes.Equal(b, want) {
		t.Fatalf("Bytes of %d records: % x, %d, not % x", len(l), brief(b), e, brief(want))
	}
	return b
}

// refused fails if Bytes doesn't tell the error, and nothing else.
func refused(t *testing.T, what string, want api.Errno, l ...rec.Rec) {
	t.Helper()
	if b, e := rec.Bytes(l...); len(b) != 0 || e != want {
		t.Errorf("Bytes, %s: %d bytes, %d, not %d", what, len(b), e, want)
	}
}

// next fails if Next doesn't tell that record, size and error.
func next(t *testing.T, b []byte, r rec.Rec, size int, e api.Errno) {
	t.Helper()
	gotR, gotSize, gotE := rec.Next(b)
	if !alike(gotR, r) || gotSize != size || gotE != e {
		t.Fatalf("Next of %d bytes, % x: Kind %d, %d bytes of Data, size %d, %d, not Kind %d, %d bytes, size %d, %d",
			len(b), brief(b), gotR.Kind, len(gotR.Data), gotSize, gotE, r.Kind, len(r.Data), size, e)
	}
}

// all fails if All doesn't tell these records, and how many bytes they have, and the error.
func all(t *testing.T, b []byte, l []rec.Rec, good int, e api.Errno) {
	t.Helper()
	gotL, gotGood, gotE := rec.All(b)
	if !slices.EqualFunc(gotL, l, alike) || gotGood != good || gotE != e {
		t.Fatalf("All of %d bytes, % x: %d records, good %d, %d, not %d records, good %d, %d",
			len(b), brief(b), len(gotL), gotGood, gotE, len(l), good, e)
	}
}

// holds fails if Next or All doesn't tell of b what the chapter's words say, and hands on why Next told none.
func holds(t *testing.T, b []byte) api.Errno {
	t.Helper()
	r, size, e := plainNext(b)
	next(t, b, r, size, e)
	l, good, why := plainAll(b)
	all(t, b, l, good, why)
	return e
}

// ordinary is some records of few bytes: kinds at their bounds, no bytes, nil
// and empty, and as many as their number takes a byte more for.
func ordinary() []rec.Rec {
	return []rec.Rec{
		{Kind: 1, Data: []byte("a")},
		{},
		{Kind: 255, Data: []byte{}},
		{Kind: 0, Data: []byte{0}},
		{Kind: 128, Data: noise.Bytes(2)},
		{Kind: 3, Data: noise.Bytes(127)},
		{Kind: 127, Data: noise.Bytes(128)},
		{Kind: 254, Data: make([]byte, 40)},
		{Kind: 6, Data: bytes.Repeat([]byte{255}, 200)},
	}
}
