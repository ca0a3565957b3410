package rec_test

import (
	"bytes"
	"math"
	"slices"
	"testing"

	"mutoscope/api"
	"mutoscope/noise"
	"mutoscope/rec"
)

// The calls that the chapter lists, by their signatures, and its type, by its fields.
var (
	_ func(...rec.Rec) ([]byte, api.Errno)              = rec.Bytes
	_ func([]byte) (r rec.Rec, size int, e api.Errno)   = rec.Next
	_ func(int) int                                     = rec.Size
	_ func([]byte) (l []rec.Rec, good int, e api.Errno) = rec.All
	_ func(a, b rec.Rec) bool                           = rec.Equal
	_ struct {
		Kind int
		Data []byte
	} = rec.Rec{}
)

// The chapter's example.
func TestExample(t *testing.T) {
	b, e := rec.Bytes(rec.Rec{Kind: 1, Data: []byte("a")})
	if len(b) != 7 || string(b[:3]) != "\x01\x01a" || e != api.OK {
		t.Errorf("Bytes: % x, %d", b, e)
	}
	next(t, b, rec.Rec{Kind: 1, Data: []byte("a")}, 7, api.OK)
}

// P4.1: the bytes of no records, of one, and of many.
func TestBytesOfNoneOneMany(t *testing.T) {
	for _, none := range [][]rec.Rec{nil, {}} {
		if b := made(t, none...); len(b) != 0 {
			t.Errorf("Bytes of no records: % x", b)
		}
	}
	l := ordinary()
	for k, r := range l {
		made(t, r)
		made(t, l[:k]...)
		made(t, r, r, r)
	}
	var many []rec.Rec
	for k := range 5000 {
		many = append(many, rec.Rec{Kind: k % 256, Data: noise.Bytes(k % 300)})
	}
	all(t, made(t, many...), many, len(plainRow(many...)), api.OK)
}

// P4.1: the number is ahead of the Kind, that ahead of the Data, and the sum, of all these, has its lowest byte first. The sums are as other programs reckon CRC-32.
func TestBytesByHand(t *testing.T) {
	for _, c := range []struct {
		r    rec.Rec
		want string
	}{
		{rec.Rec{}, "\x00\x00\xff\x12\xd9\x41"},
		{rec.Rec{Kind: 255}, "\x00\xff\x72\xfd\xdb\x6c"},
		{rec.Rec{Kind: 1, Data: []byte("a")}, "\x01\x01a\xaa\xd3\x2d\xdd"},
		{rec.Rec{Kind: 49, Data: []byte("ab")}, "\x021ab\xa2\xc2\xbe\x71"},
		{rec.Rec{Kind: 7, Data: make([]byte, 200)}, "\xc8\x01\x07" + string(make([]byte, 200)) + "\xe4\x79\x36\xff"},
	} {
		b, e := rec.Bytes(c.r)
		if string(b) != c.want || e != api.OK {
			t.Errorf("Bytes of Kind %d: % x, %d, not % x", c.r.Kind, b, e, c.want)
		}
	}
}

// P4.1: each Kind that is right, and those beside and far from its bounds.
func TestKinds(t *testing.T) {
	for kind := range 256 {
		r := rec.Rec{Kind: kind, Data: []byte("ab")}
		next(t, made(t, r), r, 8, api.OK)
	}
	for _, kind := range []int{-1, 256, -256, -255, 257, 511, 512, 65536, -65536, 1 << 32, math.MaxInt, math.MinInt} {
		refused(t, "a wrong Kind", api.ErrRange, rec.Rec{Kind: kind})
		refused(t, "a wrong Kind", api.ErrRange, rec.Rec{Kind: kind, Data: []byte("a")})
	}
}

// P4.1, P4.2: Data of lengths at which something changes, MaxRecord among them; one byte more is refused.
func TestLengths(t *testing.T) {
	for _, n := range []int{0, 1, 2, 127, 128, 129, 255, 256, 16383, 16384, 16385, 65536, api.MaxRecord - 1, api.MaxRecord} {
		r := rec.Rec{Kind: n % 256, Data: noise.Bytes(n)}
		b := made(t, r)
		next(t, b, r, len(b), api.OK)
		next(t, b[:len(b)-1], rec.Rec{}, 0, api.ErrShort)
		all(t, b, []rec.Rec{r}, len(b), api.OK)
		if x := rec.Size(n); x != len(b) {
			t.Errorf("Size(%d): %d, not %d", n, x, len(b))
		}
	}
	for _, n := range []int{api.MaxRecord + 1, api.MaxRecord + 2, 2 * api.MaxRecord} {
		refused(t, "too much Data", api.ErrBig, rec.Rec{Kind: 1, Data: make([]byte, n)})
	}
	if b := made(t, rec.Rec{Kind: 7, Data: nil}); !bytes.Equal(b, made(t, rec.Rec{Kind: 7, Data: []byte{}})) {
		t.Errorf("Bytes of nil: % x", b)
	}
}

// P4.1: of a record whose Kind and Data are both wrong the Kind's error is told; of more than one the first one's.
func TestBytesErrorsInOrder(t *testing.T) {
	big := make([]byte, api.MaxRecord+1)
	good, kind := rec.Rec{Kind: 1, Data: []byte("a")}, rec.Rec{Kind: 256, Data: []byte("b")}
	wide, both := rec.Rec{Kind: 2, Data: big}, rec.Rec{Kind: -1, Data: big}
	for _, c := range []struct {
		what string
		e    api.Errno
		l    []rec.Rec
	}{
		{"both", api.ErrRange, []rec.Rec{both}},
		{"both, behind a right one", api.ErrRange, []rec.Rec{good, both}},
		{"a Kind, then Data", api.ErrRange, []rec.Rec{kind, wide}},
		{"Data, then a Kind", api.ErrBig, []rec.Rec{wide, kind}},
		{"Data, then both", api.ErrBig, []rec.Rec{wide, both}},
		{"both, then Data", api.ErrRange, []rec.Rec{both, wide}},
		{"Data between right ones", api.ErrBig, []rec.Rec{good, wide, good}},
		{"a Kind between right ones", api.ErrRange, []rec.Rec{good, kind, good}},
		{"Data at last", api.ErrBig, []rec.Rec{good, good, good, wide}},
		{"a Kind at last", api.ErrRange, []rec.Rec{good, good, good, kind}},
		{"right ones between", api.ErrBig, []rec.Rec{good, wide, good, kind, good, both}},
	} {
		refused(t, c.what, c.e, c.l...)
	}
}

// P4.1: Size at its bounds, and where the number takes a byte more; it grows by one, or by two there.
func TestSize(t *testing.T) {
	for n, want := range map[int]int{
		0: 6, 1: 7, 126: 132, 127: 133, 128: 135, 129: 136,
		16382: 16389, 16383: 16390, 16384: 16392, 16385: 16393,
		api.MaxRecord - 1: api.MaxRecord + 7, api.MaxRecord: api.MaxRecord + 8,
		api.MaxRecord + 1: 0, api.MaxRecord + 2: 0, 1 << 21: 0, 1 << 32: 0, 1<<32 + 1: 0, math.MaxInt: 0,
		-1: 0, -2: 0, -128: 0, math.MinInt: 0,
	} {
		if x := rec.Size(n); x != want {
			t.Errorf("Size(%d): %d, not %d", n, x, want)
		}
	}
	for n := range 20000 {
		want := 1
		if n+1 == 128 || n+1 == 16384 {
			want = 2
		}
		if x := rec.Size(n+1) - rec.Size(n); x != want {
			t.Fatalf("Size(%d) is %d above the one ahead", n+1, x)
		}
	}
}

// P4.1: Equal holds both fields, and nothing else, against each other.
func TestEqual(t *testing.T) {
	l := []rec.Rec{
		{}, {Kind: 1}, {Kind: -1}, {Kind: 256}, {Kind: 257}, {Kind: math.MaxInt}, {Kind: math.MinInt},
		{Data: []byte{0}}, {Data: []byte{0, 0}}, {Data: []byte{1, 0}}, {Data: []byte{0, 1}}, {Data: []byte("a")},
		{Kind: 1, Data: []byte{0}}, {Kind: 1, Data: []byte("a")}, {Kind: 1, Data: make([]byte, api.MaxRecord+1)}, {Kind: 1, Data: make([]byte, api.MaxRecord)},
	}
	for i, a := range l {
		for k, b := range l {
			twin := rec.Rec{Kind: b.Kind, Data: append(make([]byte, 0, len(b.Data)+9), b.Data...)}
			if rec.Equal(a, b) != (i == k) || rec.Equal(a, twin) != (i == k) || rec.Equal(twin, a) != (i == k) {
				t.Errorf("Equal of %d and %d", i, k)
			}
		}
	}
	if !rec.Equal(rec.Rec{Kind: 3}, rec.Rec{Kind: 3, Data: []byte{}}) || !rec.Equal(rec.Rec{Kind: 3, Data: []byte{}}, rec.Rec{Kind: 3}) {
		t.Errorf("Equal of nil and empty Data")
	}
}

// P4.2: of a record's bytes that end at each place within it.
func TestCutAtEachPlace(t *testing.T) {
	for _, r := range append(ordinary(), rec.Rec{Kind: 9, Data: noise.Bytes(16384)}) {
		b := made(t, r)
		for k := range b {
			next(t, b[:k], rec.Rec{}, 0, api.ErrShort)
			if k > 0 {
				all(t, b[:k], nil, 0, api.ErrShort)
			}
		}
		next(t, b, r, len(b), api.OK)
	}
	for _, none := range [][]byte{nil, {}} {
		next(t, none, rec.Rec{}, 0, api.ErrShort)
		all(t, none, nil, 0, api.OK)
	}
}

// P4.2: of a row of records that ends at each place.
func TestRowCutAtEachPlace(t *testing.T) {
	l := ordinary()
	b := made(t, l...)
	whole, good := 0, 0
	for k := range len(b) + 1 {
		if whole < len(l) && k == good+len(plainBytes(l[whole])) {
			good = k
			whole++
		}
		e := api.ErrShort
		if k == good {
			e = api.OK
		}
		all(t, b[:k], l[:whole], good, e)
		if k >= 7 {
			next(t, b[:k], l[0], 7, api.OK)
		}
	}
	if whole != len(l) {
		t.Errorf("%d of %d records were whole", whole, len(l))
	}
}

// P4.2: numbers that aren't the shortest ones, that go on too long, that end too early, and that are too great; with a sum that is right, where there is one, too.
func TestNumbers(t *testing.T) {
	for _, c := range []struct {
		number string
		e      api.Errno
	}{
		{"", api.ErrShort},
		{"\x80", api.ErrShort},
		{"\xff\xff\xff", api.ErrShort},
		{"\x80\x80\x80\x80\x80\x80\x80\x80\x80", api.ErrShort},
		{"\x80\x00", api.ErrForm},
		{"\x81\x00", api.ErrForm},
		{"\x80\x80\x00", api.ErrForm},
		{"\xff\xff\x00", api.ErrForm},
		{"\x80\x80\x80\x80\x80\x80\x80\x80\x80\x00", api.ErrForm},
		{"\x80\x80\x80\x80\x80\x80\x80\x80\x80\x80", api.ErrForm},
		{"\xff\xff\xff\xff\xff\xff\xff\xff\xff\xff", api.ErrForm},
		{"\xff\xff\xff\xff\xff\xff\xff\xff\xff\xff\x01", api.ErrForm},
		{"\x80\x80\x80\x80\x80\x80\x80\x80\x80\x80\x80\x80", api.ErrForm},
		{"\x80\x80\x80\x80\x80\x80\x80\x80\x80\x02", api.ErrForm},
		{"\x01", api.ErrShort},
		{"\x7f", api.ErrShort},
		{"\x80\x01", api.ErrShort},
		{"\x80\x80\x40", api.ErrShort},
		{"\xff\xff\x3f", api.ErrShort},
		{"\x81\x80\x40", api.ErrBig},
		{"\xff\xff\x7f", api.ErrBig},
		{"\x80\x80\x80\x01", api.ErrBig},
		{"\x80\x80\x80\x80\x10", api.ErrBig},
		{"\x81\x80\x80\x80\x10", api.ErrBig},
		{"\xff\xff\xff\xff\xff\xff\xff\xff\x7f", api.ErrBig},
		{"\x80\x80\x80\x80\x80\x80\x80\x80\x80\x01", api.ErrBig},
		{"\xff\xff\xff\xff\xff\xff\xff\xff\xff\x01", api.ErrBig},
	} {
		next(t, []byte(c.number), rec.Rec{}, 0, c.e)
		if c.e == api.ErrShort {
			continue
		}
		for _, behind := range []string{"\x01", "\x01a", "\x01abcd"} {
			next(t, []byte(c.number+behind), rec.Rec{}, 0, c.e)
			b := sealed([]byte(c.number + behind))
			next(t, b, rec.Rec{}, 0, c.e)
			all(t, b, nil, 0, c.e)
		}
	}
}

// P4.2: a number above MaxRecord is ErrBig with as many bytes behind it as it asks for, too, and with a right sum.
func TestBigWithAllItsBytes(t *testing.T) {
	for _, n := range []int{api.MaxRecord + 1, 2 * api.MaxRecord} {
		b := sealed(slices.Concat(plainNumber(n), []byte{1}, make([]byte, n)))
		next(t, b, rec.Rec{}, 0, api.ErrBig)
		all(t, slices.Concat(made(t, rec.Rec{Kind: 1}), b), []rec.Rec{{Kind: 1}}, 6, api.ErrBig)
	}
}

// P4.2: numbers of each length ahead of few bytes, with each ending.
func TestNumbersWithEachEnding(t *testing.T) {
	for _, fill := range []byte{128, 129, 255} {
		for n := range 13 {
			for x := range 256 {
				b := append(bytes.Repeat([]byte{fill}, n), byte(x))
				for behind := range 8 {
					holds(t, slices.Concat(b, make([]byte, behind)))
				}
				holds(t, sealed(append(b, 1, 2, 3)))
			}
		}
	}
}

// P4.2: each bit of a record altered, with nothing behind it, and with another record there. Behind the number it is known by the sum.
func TestEachBitAltered(t *testing.T) {
	for _, r := range ordinary() {
		one := made(t, r)
		number := len(plainNumber(len(r.Data)))
		for _, b := range [][]byte{one, made(t, r, rec.Rec{Kind: 4, Data: []byte("behind")}), made(t, r, rec.Rec{Data: noise.Bytes(500)})} {
			for bit := range 8 * len(one) {
				b[bit/8] ^= 1 << (bit % 8)
				e := holds(t, b)
				if e == api.OK || bit/8 >= number && e != api.ErrSum {
					t.Fatalf("the bit %d of % x altered: %d", bit, brief(one), e)
				}
				b[bit/8] ^= 1 << (bit % 8)
			}
			holds(t, b)
		}
	}
}

// P4.2: each bit altered of a row of records: those ahead of it are told, and none from it on.
func TestEachBitOfARowAltered(t *testing.T) {
	l := []rec.Rec{{Kind: 1, Data: []byte("a")}, {Kind: 2}, {Kind: 3, Data: []byte("ccc")}, {Kind: 255, Data: noise.Bytes(30)}}
	b := made(t, l...)
	at, from := 0, 0
	for bit := range 8 * len(b) {
		if bit/8 == from+len(plainBytes(l[at])) {
			from = bit / 8
			at++
		}
		b[bit/8] ^= 1 << (bit % 8)
		_, _, e := plainAll(b)
		if e == api.OK {
			t.Fatalf("the bit %d altered: no error", bit)
		}
		all(t, b, l[:at], from, e)
		b[bit/8] ^= 1 << (bit % 8)
	}
}

// P4.2: bytes that end in a sum: one of other bytes, of fewer, of none, with its bytes turned round, or not the last ones.
func TestBytesThatEndInASum(t *testing.T) {
	head := []byte{3, 7, 'a', 'b', 'c'}
	right := plainSum(head)
	next(t, slices.Concat(head, right), rec.Rec{Kind: 7, Data: []byte("abc")}, 9, api.OK)
	turned := slices.Clone(right)
	slices.Reverse(turned)
	turnedBits := []byte{^right[0], ^right[1], ^right[2], ^right[3]}
	for what, sum := range map[string][]byte{
		"turned round":        turned,
		"not ored at last":    turnedBits,
		"of the Data":         plainSum(head[2:]),
		"without the number":  plainSum(head[1:]),
		"of the number alone": plainSum(head[:1]),
		"without the last":    plainSum(head[:4]),
		"of all, and itself":  plainSum(slices.Concat(head, right)),
		"noughts":             {0, 0, 0, 0},
	} {
		if _, _, e := rec.Next(slices.Concat(head, sum)); e != api.ErrSum {
			t.Errorf("a sum %s: %d", what, e)
		}
		all(t, slices.Concat(head, sum), nil, 0, api.ErrSum)
	}
	for n := range 30 {
		b := sealed(noise.Bytes(n))
		holds(t, b)
		holds(t, sealed(b))
		holds(t, slices.Concat(made(t, rec.Rec{Kind: 1}), b))
	}
	b := sealed(head)
	for k := range len(b) {
		holds(t, slices.Concat(b[:k], b[k+1:]))
		holds(t, slices.Concat(b[:k], []byte{0}, b[k:]))
	}
}

// P4.2: Next tells a record whatever stands behind it; All goes on to what isn't right there, and tells why.
func TestWhatStandsBehind(t *testing.T) {
	short := made(t, rec.Rec{Kind: 1, Data: noise.Bytes(20)})
	altered := slices.Clone(short)
	altered[5] ^= 64
	for _, r := range ordinary() {
		b := made(t, r)
		for _, c := range []struct {
			behind []byte
			more   []rec.Rec
			e      api.Errno
		}{
			{nil, nil, api.OK},
			{made(t, r), []rec.Rec{r}, api.OK},
			{made(t, rec.Rec{Kind: 5}, r), []rec.Rec{{Kind: 5}, r}, api.OK},
			{[]byte{0}, nil, api.ErrShort},
			{[]byte{128}, nil, api.ErrShort},
			{short[:len(short)-1], nil, api.ErrShort},
			{[]byte{128, 0}, nil, api.ErrForm},
			{bytes.Repeat([]byte{255}, 12), nil, api.ErrForm},
			{[]byte{129, 128, 64}, nil, api.ErrBig},
			{altered, nil, api.ErrSum},
			{slices.Concat(altered, short), nil, api.ErrSum},
			{make([]byte, 6), nil, api.ErrSum},
		} {
			row := slices.Concat(b, c.behind)
			next(t, row, r, len(b), api.OK)
			all(t, row, append([]rec.Rec{r}, c.more...), len(b)+len(plainRow(c.more...)), c.e)
		}
	}
}

// P4.2: each row of up to two bytes, and noise, with small numbers ahead of it, so that sums are held against it.
func TestRowsOfAnyBytes(t *testing.T) {
	for x := range 256 {
		holds(t, []byte{byte(x)})
		for y := range 256 {
			holds(t, []byte{byte(x), byte(y)})
			holds(t, sealed([]byte{byte(x), byte(y)}))
		}
	}
	b := noise.Bytes(4000)
	for at := range b {
		row := slices.Clone(b[at:min(at+40, len(b))])
		holds(t, row)
		row[0] %= 40
		holds(t, row)
		holds(t, slices.Concat(sealed(append([]byte{byte(len(row))}, b[at:min(at+len(row)+1, len(b))]...)), row))
	}
}

// P4.2: a long row of records, and far more bytes than the first one has, are gone through in time that grows as they do.
func TestLongRow(t *testing.T) {
	one := made(t, rec.Rec{Kind: 9})
	const many = 1 << 18
	b := bytes.Repeat(one, many)
	l, good, e := rec.All(b)
	if len(l) != many || good != len(b) || e != api.OK {
		t.Fatalf("All: %d, %d, %d", len(l), good, e)
	}
	for k, r := range l {
		if !alike(r, rec.Rec{Kind: 9}) {
			t.Fatalf("All, the record %d: Kind %d, %d bytes", k, r.Kind, len(r.Data))
		}
	}
	for range many {
		if _, size, e := rec.Next(b); size != len(one) || e != api.OK {
			t.Fatalf("Next: %d, %d", size, e)
		}
	}
}
