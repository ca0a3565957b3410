package disk_test

import (
	"testing"

	"mutoscope/disk"
)

// draw is numbers without a pattern, the same ones in each run.
type draw uint64

func (r *draw) below(n int) int {
	*r = *r*6364136223846793005 + 1442695040888963407
	return int(uint64(*r)>>33) % n
}

// of is one of some texts.
func (r *draw) of(l ...string) string { return l[r.below(len(l))] }

// name is mostly a right one.
func (r *draw) name() string {
	return r.of("a", "b", "c", "d", "a", "b", "e.1", a64, "", "B", a65, "\xff")
}

// choices is up to eight.
func (r *draw) choices() []disk.Choice {
	l := make([]disk.Choice, r.below(9))
	for k := range l {
		l[k] = disk.Choice{Keep: uint(r.below(9)), At: uint(r.below(9)), Flip: byte(r.below(3))}
		if r.below(5) == 0 {
			l[k].Keep, l[k].At = ^uint(0)-l[k].Keep, ^uint(0)-l[k].At
		}
	}
	return l
}

// op is any call that changes something.
func (r *draw) op() op {
	switch r.below(12) {
	case 0, 1:
		return create(r.name())
	case 2, 3, 4, 5:
		parts := make([]string, r.below(4))
		for k := range parts {
			parts[k] = r.of("", "x", "yz", "123")
		}
		return write(r.name(), parts...)
	case 6:
		return sync(r.name())
	case 7:
		return remove(r.name())
	case 8, 9:
		return rename(r.name(), r.name())
	case 10:
		return arm(r.below(14) - 2)
	}
	return crash(r.choices()...)
}

// P3.1 to P3.3: rows of calls, each held against the chapter's words, with a
// copy that is taken now and then, goes on its own way, and takes the other's
// place now and then.
func TestWalks(t *testing.T) {
	for seed := range 400 {
		r := draw(seed)
		b := made(t, r.below(40))
		other := b.copy()
		for range 150 {
			b.do(t, r.op())
			switch r.below(12) {
			case 0:
				other = b.copy()
			case 1:
				b, other = other, b
			case 2:
				other.do(t, r.op())
			}
			stands(t, "the other one", other.d, other.p)
			if t.Failed() {
				t.Fatalf("in the walk %d", seed)
			}
		}
	}
}
