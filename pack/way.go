package pack

import (
	"math"

	"mutoscope/api"
	"mutoscope/coder"
)

// way goes through a thing's parts, one behind the other, and tells what each
// is to be: a writer writes the part, and tells it again; a reader tells what
// it reads, whatever the part was. So what is written, and what is read, is
// named once, and goes the same way.
type way interface {
	kind(n int) int
	signed(n int) int
	number(n uint64) uint64
	below(most, n int) int
	flag(is bool) bool
	failed() bool
}

// writer is the way of a thing to its bytes.
type writer struct {
	out coder.Out
	err api.Errno
}

// kind writes a byte: most numbers have none.
func (w *writer) kind(n int) int {
	if n < 0 || n > math.MaxUint8 {
		w.err = api.ErrForm
	}
	w.out.Raw(byte(n))
	return n
}

func (w *writer) signed(n int) int {
	w.out.Int(n)
	return n
}

func (w *writer) number(n uint64) uint64 {
	w.out.Uint(n)
	return n
}

// below writes a number that is above most, too: that it is too great is told
// where it is read.
func (w *writer) below(_, n int) int {
	w.out.Uint(uint64(n))
	return n
}

func (w *writer) flag(is bool) bool {
	w.out.Bool(is)
	return is
}

func (w *writer) failed() bool { return w.err != api.OK }

// reader is the way of bytes to the thing of which they are.
type reader struct {
	in *coder.In
}

func (r reader) kind(int) int {
	b := r.in.Raw(1)
	if len(b) == 0 {
		return 0
	}
	return int(b[0])
}

func (r reader) signed(int) int { return r.in.Int() }

func (r reader) number(uint64) uint64 { return r.in.Uint() }

func (r reader) below(most, _ int) int { return r.in.Below(most) }

func (r reader) flag(bool) bool { return r.in.Bool() }

func (r reader) failed() bool { return r.in.Err() != api.OK }

// passKind goes through a Kind, as a byte.
func passKind(w way, kind *int) {
	*kind = w.kind(*kind)
}

// passSigned goes through numbers with a sign.
func passSigned[T int | int64](w way, l ...*T) {
	for _, p := range l {
		*p = T(w.signed(int(*p)))
	}
}

// passNumbers goes through numbers of any size.
func passNumbers(w way, l ...*uint64) {
	for _, p := range l {
		*p = w.number(*p)
	}
}

// passBelow goes through numbers that aren't above most.
func passBelow[T ~int | ~uint32](w way, most int, l ...*T) {
	for _, p := range l {
		*p = T(w.below(most, int(*p)))
	}
}

// passFlags goes through bools.
func passFlags(w way, l ...*bool) {
	for _, p := range l {
		*p = w.flag(*p)
	}
}

// passList goes through how many things are in a list, and through each by one.
// A list that is read grows thing by thing, and only up to an error: bytes may
// say that there are far more than stand behind.
func passList[T any](w way, most int, l *[]T, one func(w way, x *T)) {
	n := len(*l)
	passBelow(w, most, &n)
	for k := 0; k < n && !w.failed(); k++ {
		if k == len(*l) {
			var x T
			*l = append(*l, x)
		}
		one(w, &(*l)[k])
	}
}
