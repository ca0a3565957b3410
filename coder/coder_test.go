package coder_test

import (
	"bytes"
	"math"
	"math/big"
	"strings"
	"testing"

	"mutoscope/api"
	"mutoscope/coder"
	"mutoscope/noise"
)

// written is what an out has behind one call.
func written(call func(o *coder.Out)) []byte {
	var o coder.Out
	call(&o)
	return o.Bytes()
}

// plain is a number's bytes as the chapter's words define them.
func plain(v *big.Int) []byte {
	low, higher := new(big.Int), new(big.Int)
	higher.DivMod(v, big.NewInt(128), low)
	if higher.Sign() == 0 {
		return []byte{byte(low.Int64())}
	}
	return append([]byte{byte(low.Int64() + 128)}, plain(higher)...)
}

// plainInt is the bytes of a number with a sign: 2 n, or -2 n - 1.
func plainInt(n int) []byte {
	v := big.NewInt(int64(n))
	v.Mul(v, big.NewInt(2))
	if n < 0 {
		v.Neg(v)
		v.Sub(v, big.NewInt(1))
	}
	return plain(v)
}

// plainRead is what P2.2 says of the number with which b begins.
func plainRead(b []byte) (v uint64, size int, e api.Errno) {
	last := 0
	for last < len(b) && b[last] >= 128 {
		last++
	}
	if last >= 10 || last == 9 && len(b) > 9 && b[9] > 1 {
		return 0, 0, api.ErrForm
	}
	if last == len(b) {
		return 0, 0, api.ErrShort
	}
	if last > 0 && b[last] == 0 {
		return 0, 0, api.ErrForm
	}
	sum := new(big.Int)
	for k := last; k >= 0; k-- {
		sum.Mul(sum, big.NewInt(128))
		sum.Add(sum, big.NewInt(int64(b[k]%128)))
	}
	return sum.Uint64(), last + 1, api.OK
}

// edges are numbers of every length, and those beside them.
func edges() []uint64 {
	l := []uint64{0, 1, 2, 63, 64, 126, 127, 128, 129, 255, 256, 300, 16383, 16384, math.MaxUint64, math.MaxUint64 - 1}
	for k := range 64 {
		v := uint64(1) << k
		l = append(l, v-1, v, v+1, math.MaxUint64-v)
	}
	return l
}

// signedEdges are numbers with a sign of every length, and those beside them.
func signedEdges() []int {
	l := []int{0, 1, -1, 63, -63, 64, -64, 65, -65, 8191, -8192, 8192, -8193, math.MaxInt, math.MinInt, math.MinInt + 1}
	for _, v := range edges() {
		l = append(l, int(v), -int(v))
	}
	return l
}

// same fails if what an out has isn't want.
func same(t *testing.T, what string, got, want []byte) {
	t.Helper()
	if !bytes.Equal(got, want) {
		t.Errorf("%q: % x, not % x", what, got, want)
	}
}

// stands fails if the in hasn't so many bytes left, and this error.
func stands(t *testing.T, what string, i *coder.In, left int, e api.Errno) {
	t.Helper()
	end := e
	if e == api.OK && left > 0 {
		end = api.ErrBig
	}
	if i.Left() != left || i.Err() != e || i.End() != end || i.Err() != e || i.Left() != left {
		t.Errorf("%q: Left %d, Err %d, End %d, not %d, %d, %d", what, i.Left(), i.Err(), i.End(), left, e, end)
	}
}

// silent fails if some call tells something, or mends the error, behind an error.
func silent(t *testing.T, what string, i *coder.In, e api.Errno) {
	t.Helper()
	stands(t, what, i, 0, e)
	for _, n := range []int{0, 1, 2, 1 << 20, math.MaxInt, -1, math.MinInt} {
		if x := i.Raw(n); len(x) != 0 {
			t.Errorf("%q: then Raw(%d): % x", what, n, x)
		}
		if x := i.Text(n); x != "" {
			t.Errorf("%q: then Text(%d): %q", what, n, x)
		}
		if x := i.Below(n); x != 0 {
			t.Errorf("%q: then Below(%d): %d", what, n, x)
		}
		if i.Uint() != 0 || i.Int() != 0 || i.Bool() {
			t.Errorf("%q: then a number or a true", what)
		}
		stands(t, what, i, 0, e)
	}
}

// The chapter's examples.
func TestExamples(t *testing.T) {
	same(t, "Uint(300)", written(func(o *coder.Out) { o.Uint(300) }), []byte{0xac, 0x02})
	same(t, "Int(-1)", written(func(o *coder.Out) { o.Int(-1) }), []byte{0x01})
	long := coder.NewIn([]byte{0x80, 0x00})
	if x := long.Uint(); x != 0 {
		t.Errorf("80 00: %d", x)
	}
	silent(t, "80 00", long, api.ErrForm)
	short := coder.NewIn([]byte{0x80})
	if x := short.Uint(); x != 0 {
		t.Errorf("80: %d", x)
	}
	silent(t, "80", short, api.ErrShort)
}

// P2.1: a zero Out has no bytes, and calls of no numbers add none.
func TestZeroOut(t *testing.T) {
	var o coder.Out
	if x := o.Bytes(); len(x) != 0 {
		t.Errorf("a zero Out: % x", x)
	}
	for range 2 {
		was := o.Bytes()
		o.Uint()
		o.Int()
		o.Bool()
		o.Raw()
		o.Uint(nil...)
		o.Int([]int{}...)
		o.Bool(nil...)
		o.Raw([]byte{}...)
		same(t, "calls of no numbers", o.Bytes(), was)
		o.Text("ab")
	}
}

// P2.1: a number's bytes, by hand.
func TestUintBytes(t *testing.T) {
	for v, want := range map[uint64]string{
		0:                  "\x00",
		1:                  "\x01",
		127:                "\x7f",
		128:                "\x80\x01",
		129:                "\x81\x01",
		255:                "\xff\x01",
		16383:              "\xff\x7f",
		16384:              "\x80\x80\x01",
		1<<63 - 1:          "\xff\xff\xff\xff\xff\xff\xff\xff\x7f",
		1 << 63:            "\x80\x80\x80\x80\x80\x80\x80\x80\x80\x01",
		math.MaxUint64 - 1: "\xfe\xff\xff\xff\xff\xff\xff\xff\xff\x01",
		math.MaxUint64:     "\xff\xff\xff\xff\xff\xff\xff\xff\xff\x01",
	} {
		same(t, "Uint", written(func(o *coder.Out) { o.Uint(v) }), []byte(want))
	}
}

// P2.1: the bytes of a number with a sign, by hand.
func TestIntBytes(t *testing.T) {
	for n, want := range map[int]string{
		0:               "\x00",
		-1:              "\x01",
		1:               "\x02",
		-2:              "\x03",
		63:              "\x7e",
		-64:             "\x7f",
		64:              "\x80\x01",
		-65:             "\x81\x01",
		150:             "\xac\x02",
		math.MaxInt:     "\xfe\xff\xff\xff\xff\xff\xff\xff\xff\x01",
		math.MinInt:     "\xff\xff\xff\xff\xff\xff\xff\xff\xff\x01",
		math.MinInt + 1: "\xfd\xff\xff\xff\xff\xff\xff\xff\xff\x01",
	} {
		same(t, "Int", written(func(o *coder.Out) { o.Int(n) }), []byte(want))
	}
}

// P2.1: numbers of all lengths have the bytes that the chapter defines, and are read back.
func TestNumbersOfAllLengths(t *testing.T) {
	for _, v := range edges() {
		b := written(func(o *coder.Out) { o.Uint(v) })
		same(t, "Uint", b, plain(new(big.Int).SetUint64(v)))
		i := coder.NewIn(b)
		if x := i.Uint(); x != v {
			t.Errorf("Uint, read: %d, not %d", x, v)
		}
		stands(t, "Uint, read", i, 0, api.OK)
	}
	for _, n := range signedEdges() {
		b := written(func(o *coder.Out) { o.Int(n) })
		same(t, "Int", b, plainInt(n))
		i := coder.NewIn(b)
		if x := i.Int(); x != n {
			t.Errorf("Int, read: %d, not %d", x, n)
		}
		stands(t, "Int, read", i, 0, api.OK)
	}
}

// P2.1: each false is 0, each true 1; raw bytes stand as they are; a text has its length ahead of it.
func TestBoolRawText(t *testing.T) {
	same(t, "Bool", written(func(o *coder.Out) { o.Bool(true, false, false, true) }), []byte{1, 0, 0, 1})
	all := make([]byte, 256)
	for k := range all {
		all[k] = byte(k)
	}
	same(t, "Raw", written(func(o *coder.Out) { o.Raw(all...) }), all)
	for _, n := range []int{0, 1, 2, 127, 128, 300, 16383, 16384} {
		s := string(noise.Bytes(n))
		want := append(plain(big.NewInt(int64(n))), s...)
		same(t, "Text", written(func(o *coder.Out) { o.Text(s) }), want)
	}
	same(t, "Text", written(func(o *coder.Out) { o.Text("é\xff\x00") }), []byte("\x04é\xff\x00"))
}

// P2.1: one call of many numbers writes what many calls of one write.
func TestManyInOneCall(t *testing.T) {
	numbers, signed, raw := edges(), signedEdges(), noise.Bytes(5000)
	bools := make([]bool, 999)
	for k := range bools {
		bools[k] = raw[k]%2 == 0
	}
	var one, many, want coder.Out
	one.Uint(numbers...)
	for _, v := range numbers {
		many.Uint(v)
		want.Raw(plain(new(big.Int).SetUint64(v))...)
	}
	one.Int(signed...)
	for _, n := range signed {
		many.Int(n)
		want.Raw(plainInt(n)...)
	}
	one.Bool(bools...)
	for _, is := range bools {
		many.Bool(is)
		if is {
			want.Raw(1)
		} else {
			want.Raw(0)
		}
	}
	one.Raw(raw...)
	for _, b := range raw {
		many.Raw(b)
	}
	want.Raw(raw...)
	same(t, "many calls of one", many.Bytes(), want.Bytes())
	same(t, "one call of many", one.Bytes(), want.Bytes())
}

// P2.1, P2.2: calls of all kinds write behind what is there, and are read back in order.
func TestOneBehindTheOther(t *testing.T) {
	var o coder.Out
	o.Uint(300, 0)
	o.Int(-1, 64)
	o.Text("")
	o.Bool(true, false)
	o.Text("hi")
	o.Raw(7, 8, 9)
	o.Uint(math.MaxUint64)
	b := o.Bytes()
	same(t, "all kinds", b, []byte("\xac\x02\x00\x01\x80\x01\x00\x01\x00\x02hi\x07\x08\x09\xff\xff\xff\xff\xff\xff\xff\xff\xff\x01"))
	i := coder.NewIn(b)
	if x, y := i.Uint(), i.Below(0); x != 300 || y != 0 {
		t.Errorf("Uint and Below: %d, %d", x, y)
	}
	if x, y := i.Int(), i.Int(); x != -1 || y != 64 {
		t.Errorf("Int: %d, %d", x, y)
	}
	if x := i.Text(0); x != "" {
		t.Errorf("Text: %q", x)
	}
	if x, y := i.Bool(), i.Bool(); !x || y {
		t.Errorf("Bool: %v, %v", x, y)
	}
	if x := i.Text(100); x != "hi" {
		t.Errorf("Text: %q", x)
	}
	same(t, "Raw", i.Raw(2), []byte{7, 8})
	same(t, "Raw", i.Raw(1), []byte{9})
	stands(t, "ahead of the last number", i, 10, api.OK)
	if x := i.Uint(); x != math.MaxUint64 {
		t.Errorf("Uint: %d", x)
	}
	stands(t, "at the end", i, 0, api.OK)
}

// holds fails if Uint and Int don't read b as the chapter defines it, or Below and Text don't read its number.
func holds(t *testing.T, b []byte) {
	t.Helper()
	v, size, e := plainRead(b)
	i := coder.NewIn(b)
	if x := i.Uint(); x != v {
		t.Fatalf("Uint of % x: %d, not %d", b, x, v)
	}
	n := new(big.Int).SetUint64(v / 2)
	if v%2 == 1 {
		n.Neg(n).Sub(n, big.NewInt(1))
	}
	j := coder.NewIn(b)
	if x := j.Int(); int64(x) != n.Int64() {
		t.Fatalf("Int of % x: %d, not %d", b, x, n)
	}
	left := 0
	if e == api.OK {
		left = len(b) - size
	}
	if i.Left() != left || i.Err() != e || j.Left() != left || j.Err() != e {
		t.Fatalf("Uint, Int of % x: Left %d, %d, Err %d, %d, not %d, %d", b, i.Left(), j.Left(), i.Err(), j.Err(), left, e)
	}
	below := coder.NewIn(b)
	want, wantErr := v, e
	if e == api.OK && v > math.MaxInt {
		want, wantErr = 0, api.ErrBig
	}
	if x := below.Below(math.MaxInt); uint64(x) != want || below.Err() != wantErr {
		t.Fatalf("Below of % x: %d, %d", b, x, below.Err())
	}
}

// P2.2: each row of up to two bytes, and of three with each ending that differs.
func TestUintOfEachShortRow(t *testing.T) {
	holds(t, nil)
	holds(t, []byte{})
	for x := range 256 {
		holds(t, []byte{byte(x)})
		for y := range 256 {
			holds(t, []byte{byte(x), byte(y)})
			for _, z := range []byte{0, 1, 127, 128, 255} {
				holds(t, []byte{byte(x), byte(y), z})
			}
		}
	}
}

// P2.2: rows of 0 to 12 bytes of 128 or more, and each byte behind them: the tenth one above 1, a last byte 0, and bytes that end too early are among them.
func TestUintOfEachLength(t *testing.T) {
	for _, fill := range []byte{128, 129, 170, 255} {
		for n := range 13 {
			row := bytes.Repeat([]byte{fill}, n)
			holds(t, row)
			for x := range 256 {
				holds(t, append(bytes.Clone(row), byte(x)))
				holds(t, append(bytes.Clone(row), byte(x), 0))
				holds(t, append(bytes.Clone(row), byte(x), 200, 5))
			}
		}
	}
}

// P2.2: rows without a pattern.
func TestUintOfNoise(t *testing.T) {
	b := noise.Bytes(20000)
	for at := range b {
		row := bytes.Clone(b[at:min(at+12, len(b))])
		holds(t, row)
		for k := range row {
			row[k] |= 128
			holds(t, row)
		}
	}
}

// P2.2: the errors of a number, by hand.
func TestUintErrors(t *testing.T) {
	for s, want := range map[string]api.Errno{
		"":                                     api.ErrShort,
		"\x80":                                 api.ErrShort,
		"\xff\xff":                             api.ErrShort,
		strings.Repeat("\x80", 9):              api.ErrShort,
		strings.Repeat("\xff", 9):              api.ErrShort,
		"\x80\x00":                             api.ErrForm,
		"\xff\x00":                             api.ErrForm,
		"\x80\x00\x01":                         api.ErrForm,
		"\x80\x80\x80\x00":                     api.ErrForm,
		strings.Repeat("\x80", 10):             api.ErrForm,
		strings.Repeat("\xff", 10):             api.ErrForm,
		strings.Repeat("\x80", 11):             api.ErrForm,
		strings.Repeat("\x80", 9) + "\x00":     api.ErrForm,
		strings.Repeat("\x80", 9) + "\x02":     api.ErrForm,
		strings.Repeat("\xff", 9) + "\x02":     api.ErrForm,
		strings.Repeat("\xff", 9) + "\x03":     api.ErrForm,
		strings.Repeat("\xff", 9) + "\x7f":     api.ErrForm,
		strings.Repeat("\xff", 9) + "\x80\x01": api.ErrForm,
		strings.Repeat("\xff", 9) + "\x81\x00": api.ErrForm,
	} {
		i := coder.NewIn([]byte(s))
		if x := i.Uint(); x != 0 {
			t.Errorf("Uint of % x: %d", s, x)
		}
		silent(t, "Uint of "+s, i, want)
		i = coder.NewIn([]byte(s))
		if x := i.Int(); x != 0 {
			t.Errorf("Int of % x: %d", s, x)
		}
		silent(t, "Int of "+s, i, want)
	}
}

// P2.2: Below at its bound, beside it, and with a most below 0; the number's own errors come first.
func TestBelow(t *testing.T) {
	for _, v := range []int{0, 1, 127, 128, 300, 1 << 40, math.MaxInt - 1, math.MaxInt} {
		b := append(written(func(o *coder.Out) { o.Uint(uint64(v)) }), 9)
		for _, most := range []int{math.MinInt, -2, -1, 0, 1, 127, v - 1, v, v + 1, math.MaxInt} {
			i := coder.NewIn(b)
			x := i.Below(most)
			if most >= v {
				if x != v {
					t.Errorf("Below(%d) of %d: %d", most, v, x)
				}
				stands(t, "Below", i, 1, api.OK)
				continue
			}
			if x != 0 {
				t.Errorf("Below(%d) of %d: %d", most, v, x)
			}
			silent(t, "Below", i, api.ErrBig)
		}
	}
	for _, v := range []uint64{1 << 63, 1<<63 + 1, math.MaxUint64} {
		for _, most := range []int{math.MinInt, -1, 0, math.MaxInt} {
			i := coder.NewIn(written(func(o *coder.Out) { o.Uint(v) }))
			if x := i.Below(most); x != 0 {
				t.Errorf("Below(%d) of %d: %d", most, v, x)
			}
			silent(t, "Below", i, api.ErrBig)
		}
	}
	for _, most := range []int{math.MinInt, -1, 0, 5, math.MaxInt} {
		for s, want := range map[string]api.Errno{"": api.ErrShort, "\x85": api.ErrShort, "\x85\x00": api.ErrForm} {
			i := coder.NewIn([]byte(s))
			if x := i.Below(most); x != 0 {
				t.Errorf("Below(%d) of % x: %d", most, s, x)
			}
			silent(t, "Below of "+s, i, want)
			i = coder.NewIn([]byte(s))
			if x := i.Text(most); x != "" {
				t.Errorf("Text(%d) of % x: %q", most, s, x)
			}
			silent(t, "Text of "+s, i, want)
		}
	}
}

// P2.2: Bool of each byte, and of none.
func TestBool(t *testing.T) {
	for x := range 256 {
		i := coder.NewIn([]byte{byte(x), 1, 0})
		if is := i.Bool(); is != (x == 1) {
			t.Errorf("Bool of %d: %v", x, is)
		}
		if x > 1 {
			silent(t, "Bool", i, api.ErrForm)
		} else {
			stands(t, "Bool", i, 2, api.OK)
		}
	}
	i := coder.NewIn(nil)
	if i.Bool() {
		t.Errorf("Bool of nothing: true")
	}
	silent(t, "Bool of nothing", i, api.ErrShort)
}

// P2.2: Raw of as many bytes as there are, of fewer, of more, and of an n below 0.
func TestRaw(t *testing.T) {
	for size := range 6 {
		b := noise.Bytes(size)
		for _, n := range []int{math.MinInt, -2, -1, 0, 1, 2, 3, 4, 5, 6, 7, 1 << 31, math.MaxInt} {
			i := coder.NewIn(b)
			x := i.Raw(n)
			switch {
			case n < 0:
				silent(t, "Raw, below 0", i, api.ErrForm)
			case n > size:
				silent(t, "Raw, too many", i, api.ErrShort)
			default:
				same(t, "Raw", x, b[:n])
				stands(t, "Raw", i, size-n, api.OK)
				continue
			}
			if len(x) != 0 {
				t.Errorf("Raw(%d) of %d bytes: % x", n, size, x)
			}
		}
	}
}

// P2.2: a text at its bound, one that is too long, and one whose bytes end too early; what is too long is told first.
func TestText(t *testing.T) {
	for _, c := range []struct {
		bytes, text string
		most, left  int
		err         api.Errno
	}{
		{"\x00", "", 0, 0, api.OK},
		{"\x00", "", 5, 0, api.OK},
		{"\x00x", "", 0, 1, api.OK},
		{"\x03abc", "abc", 3, 0, api.OK},
		{"\x03abcd", "abc", 3, 1, api.OK},
		{"\x03abc", "abc", math.MaxInt, 0, api.OK},
		{"\x03a\xff\x00", "a\xff\x00", 64, 0, api.OK},
		{"\x03abc", "", 2, 0, api.ErrBig},
		{"\x03abc", "", 0, 0, api.ErrBig},
		{"\x03abc", "", -1, 0, api.ErrBig},
		{"\x00", "", -1, 0, api.ErrBig},
		{"\x00", "", math.MinInt, 0, api.ErrBig},
		{"\x03ab", "", 3, 0, api.ErrShort},
		{"\x03ab", "", 2, 0, api.ErrBig},
		{"\x03", "", 3, 0, api.ErrShort},
		{"\xff\xff\xff\xff\xff\xff\xff\xff\x7fab", "", math.MaxInt, 0, api.ErrShort},
		{"\xff\xff\xff\xff\xff\xff\xff\xff\xff\x01ab", "", math.MaxInt, 0, api.ErrBig},
		{"\x83\x00abc", "", 3, 0, api.ErrForm},
	} {
		i := coder.NewIn([]byte(c.bytes))
		if x := i.Text(c.most); x != c.text {
			t.Errorf("Text(%d) of % x: %q", c.most, c.bytes, x)
		}
		stands(t, "Text of "+c.bytes, i, c.left, c.err)
		if c.err != api.OK {
			silent(t, "Text of "+c.bytes, i, c.err)
		}
	}
}

// P2.2: the first error stays, whichever call comes behind, and whatever was read ahead of it.
func TestFirstErrorStays(t *testing.T) {
	for k, c := range []struct {
		call func(i *coder.In)
		err  api.Errno
	}{
		{func(i *coder.In) { i.Below(3) }, api.ErrBig},
		{func(i *coder.In) { i.Below(-1) }, api.ErrBig},
		{func(i *coder.In) { i.Bool() }, api.ErrForm},
		{func(i *coder.In) { i.Raw(-1) }, api.ErrForm},
		{func(i *coder.In) { i.Raw(5) }, api.ErrShort},
		{func(i *coder.In) { i.Text(3) }, api.ErrBig},
		{func(i *coder.In) { i.Text(4) }, api.ErrShort},
	} {
		i := coder.NewIn([]byte("\xac\x02\x04abc"))
		if x := i.Uint(); x != 300 {
			t.Errorf("%d: %d", k, x)
		}
		stands(t, "ahead of an error", i, 4, api.OK)
		c.call(i)
		silent(t, "behind an error", i, c.err)
	}
}

// P2.3: Left, Err and End at each place; that bytes are left is no error of the in.
func TestLeftErrEnd(t *testing.T) {
	for _, b := range [][]byte{nil, {}} {
		i := coder.NewIn(b)
		stands(t, "an in of nothing", i, 0, api.OK)
		if len(i.Raw(0)) != 0 || i.Err() != api.OK {
			t.Errorf("Raw(0) of nothing: %d", i.Err())
		}
		i.Uint()
		silent(t, "an in of nothing", i, api.ErrShort)
	}
	b := noise.Bytes(40)
	i := coder.NewIn(b)
	for k := range b {
		stands(t, "ahead of a byte", i, len(b)-k, api.OK)
		same(t, "Raw, behind End", i.Raw(1), b[k:k+1])
	}
	stands(t, "at the end", i, 0, api.OK)
	i.Raw(1)
	silent(t, "behind the end", i, api.ErrShort)
}

// The rule of memory: what Bytes tells is new, and what is written later doesn't change it.
func TestOutMemory(t *testing.T) {
	var o coder.Out
	for n := range 200 {
		was := o.Bytes()
		clear(was[:cap(was)])
		twice := o.Bytes()
		o.Raw(byte(n))
		same(t, "told ahead", twice, noughtTo(n))
		clear(twice[:cap(twice)])
		same(t, "Bytes", o.Bytes(), noughtTo(n+1))
	}
	x := o.Bytes()
	_ = append(x, 1, 2, 3)
	o.Raw(200)
	same(t, "Bytes, behind an append", o.Bytes(), noughtTo(201))
}

// noughtTo is the bytes 0, 1, .. n - 1.
func noughtTo(n int) []byte {
	l := make([]byte, n)
	for k := range l {
		l[k] = byte(k)
	}
	return l
}

// The rule of memory: what is handed to an out is neither changed nor kept.
func TestOutArguments(t *testing.T) {
	raw, numbers, signed, bools := noise.Bytes(40), edges()[:20], signedEdges()[:20], []bool{true, false, true, true}
	wasRaw := bytes.Clone(raw)
	wasNumbers := append([]uint64(nil), numbers...)
	wasSigned := append([]int(nil), signed...)
	var o coder.Out
	o.Raw(raw[:20]...)
	o.Uint(numbers[:10]...)
	o.Int(signed[:10]...)
	o.Bool(bools[:2]...)
	o.Uint(7)
	want := o.Bytes()
	same(t, "raw bytes that were handed in", raw, wasRaw)
	for k := range numbers {
		if numbers[k] != wasNumbers[k] || signed[k] != wasSigned[k] {
			t.Errorf("numbers that were handed in: %d, %d", numbers[k], signed[k])
		}
	}
	if !bools[0] || bools[1] || !bools[2] || !bools[3] {
		t.Errorf("bools that were handed in: %v", bools)
	}
	clear(raw)
	clear(numbers)
	clear(signed)
	clear(bools)
	same(t, "Bytes, the arguments cleared", o.Bytes(), want)
}

// The rule of memory: an in neither changes nor keeps its bytes, and what it tells is new.
func TestInMemory(t *testing.T) {
	room := append(noise.Bytes(20), noise.Bytes(30)...)
	was := bytes.Clone(room)
	i := coder.NewIn(room[:20])
	first := i.Raw(5)
	same(t, "what was handed in", room, was)
	clear(room)
	same(t, "Raw, what was handed in cleared", first, was[:5])
	_ = append(first, 1, 2, 3, 4, 5, 6)
	clear(first[:cap(first)])
	second := i.Raw(5)
	same(t, "Raw, the one ahead cleared", second, was[5:10])
	third := i.Raw(10)
	clear(second[:cap(second)])
	same(t, "Raw, the one ahead cleared", third, was[10:20])
	stands(t, "at the end", i, 0, api.OK)
	same(t, "what was cleared", room, make([]byte, len(room)))
}

// The rule of objects: two ins of the same bytes, and two outs, have nothing in common.
func TestApart(t *testing.T) {
	b := []byte("\x02hi\x01")
	i, j := coder.NewIn(b), coder.NewIn(b)
	if x := i.Text(2); x != "hi" {
		t.Errorf("Text: %q", x)
	}
	i.Raw(-1)
	stands(t, "the other in", j, 4, api.OK)
	if x := j.Text(2); x != "hi" || !j.Bool() {
		t.Errorf("Text of the other in: %q", x)
	}
	var o, p coder.Out
	o.Text("a")
	p.Uint(5)
	o.Uint(6)
	same(t, "an out", o.Bytes(), []byte("\x01a\x06"))
	same(t, "another out", p.Bytes(), []byte("\x05"))
}
