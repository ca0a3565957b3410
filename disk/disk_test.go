package disk_test

import (
	"bytes"
	"math"
	"slices"
	"strconv"
	"strings"
	"testing"

	"mutoscope/api"
	"mutoscope/disk"
)

// The calls that the chapter lists, by their signatures.
var (
	_ func(string) bool                               = disk.Name
	_ func(int) (*disk.Disk, api.Errno)               = disk.New
	_ func(int, ...disk.File) (*disk.Disk, api.Errno) = disk.Of
	_ func(*disk.Disk, string) api.Errno              = (*disk.Disk).Create
	_ func(*disk.Disk, string, ...[]byte) api.Errno   = (*disk.Disk).Append
	_ func(*disk.Disk, string) api.Errno              = (*disk.Disk).Sync
	_ func(*disk.Disk, string) api.Errno              = (*disk.Disk).Remove
	_ func(*disk.Disk, string, string) api.Errno      = (*disk.Disk).Rename
	_ func(*disk.Disk, string) ([]byte, api.Errno)    = (*disk.Disk).Read
	_ func(*disk.Disk) []string                       = (*disk.Disk).List
	_ func(*disk.Disk, string) (size, synced int)     = (*disk.Disk).Size
	_ func(*disk.Disk) int                            = (*disk.Disk).Used
	_ func(*disk.Disk) int                            = (*disk.Disk).Capacity
	_ func(*disk.Disk, int)                           = (*disk.Disk).Arm
	_ func(*disk.Disk) bool                           = (*disk.Disk).Down
	_ func(*disk.Disk) int                            = (*disk.Disk).Steps
	_ func(*disk.Disk, ...disk.Choice)                = (*disk.Disk).Crash
	_ func(*disk.Disk) *disk.Disk                     = (*disk.Disk).Copy
)

// a64 and a65 are names at the bound and past it.
var (
	a64 = strings.Repeat("a", 64)
	a65 = strings.Repeat("a", 65)
)

// wrong is names that aren't right, of each kind.
func wrong() []string {
	return []string{"", a65, strings.Repeat("a", 1000), "A", "aB", "a b", " a", "a/b", "a\x00", "\x00", "é", "a\u0301", "\ufffd", "\xff", "a\x80b", "\xc3", "ａ", "`", "{", "/", ":", ",", "^", "@", "["}
}

// full is a disk with as many files as there may be.
func full(t *testing.T, capacity int) *pair {
	t.Helper()
	var files []disk.File
	for k := range 1024 {
		files = append(files, file("f"+strconv.Itoa(k), ""))
	}
	return made(t, capacity, files...)
}

// The chapter's examples.
func TestExamples(t *testing.T) {
	b := made(t, 100, file("x", "abc"))
	b.tells(t, api.OK, write("x", "de"))
	b.tells(t, api.OK, crash(keep(1)))
	if x, e := b.d.Read("x"); string(x) != "abcd" || e != api.OK {
		t.Errorf("Keep 1: %q, %d", x, e)
	}
	b.d.Arm(1)
	if e := b.d.Sync("x"); e != api.ErrDown || !b.d.Down() {
		t.Errorf("Arm(1), Sync: %d", e)
	}
}

// P3.1: names at their bounds, and each byte at each end of one.
func TestName(t *testing.T) {
	for n := range 130 {
		if got, want := disk.Name(strings.Repeat("x", n)), 1 <= n && n <= 64; got != want {
			t.Errorf("%d bytes: %v", n, got)
		}
	}
	for k := range 256 {
		c := string([]byte{byte(k)})
		want := strings.Contains(right, c)
		for _, s := range []string{c, c + "a", "a" + c, "a" + c + "b", a64[1:] + c, c + a64[1:]} {
			if disk.Name(s) != want {
				t.Errorf("%q: %v", s, !want)
			}
		}
		if disk.Name(a64 + c) {
			t.Errorf("%q: 65 bytes", a64+c)
		}
	}
	for _, s := range wrong() {
		if disk.Name(s) {
			t.Errorf("%q: right", s)
		}
	}
	for _, s := range []string{right, a64, ".", "..", "-", "_", "0", "log.00-1_z", strings.Repeat(".", 64)} {
		if !disk.Name(s) {
			t.Errorf("%q: not right", s)
		}
	}
	if disk.Name(strings.Repeat("é", 22)) || disk.Name(strings.Repeat("é", 32)) || disk.Name(strings.Repeat("é", 64)) {
		t.Errorf("runes of more than one byte")
	}
	for r := rune(128); r < 0x10ffff; r += 1 + r/64 {
		if disk.Name("a" + string(r)) {
			t.Errorf("%q: right", r)
		}
	}
}

// P3.1: capacities at their bounds, also of a disk with wrong files.
func TestCapacity(t *testing.T) {
	for _, n := range []int{math.MinInt, -api.MaxDisk, -2, -1, api.MaxDisk + 1, 2 * api.MaxDisk, math.MaxInt} {
		if d, e := disk.New(n); d != nil || e != api.ErrRange {
			t.Errorf("New(%d): %d", n, e)
		}
		for _, l := range [][]disk.File{nil, {}, make([]disk.File, 1025), {file("A", "")}, {file("a", "abc"), file("a", "")}} {
			if d, e := disk.Of(n, l...); d != nil || e != api.ErrRange {
				t.Errorf("Of(%d): %d", n, e)
			}
		}
	}
	for _, n := range []int{0, 1, 1000, api.MaxDisk - 1, api.MaxDisk} {
		d, e := disk.New(n)
		if e != api.OK {
			t.Fatalf("New(%d): %d", n, e)
		}
		stands(t, "New", d, plain{capacity: n}, "a", "", "A")
		b := &pair{d, plain{capacity: n, goes: -1}}
		b.tells(t, api.OK, create("a"))
		b.tells(t, api.OK, write("a"))
		made(t, n)
	}
}

// P3.1: the errors of Of, in their order.
func TestOfErrors(t *testing.T) {
	many := make([]disk.File, 1025)
	for k, c := range []struct {
		capacity int
		files    []disk.File
		want     api.Errno
	}{
		{0, many, api.ErrMany},
		{0, append(many[:1024:1024], file("A", "x")), api.ErrMany},
		{0, many[:1024], api.ErrName},
		{0, []disk.File{file("a", "xx"), file("b", ""), file("a", ""), file("B", "")}, api.ErrHave},
		{0, []disk.File{file("a", "xx"), file("B", ""), file("a", ""), file("a", "")}, api.ErrName},
		{9, []disk.File{file("a", ""), file("b", ""), file("c", ""), file("b", "")}, api.ErrHave},
		{9, []disk.File{file("B", ""), file("B", "")}, api.ErrName},
		{0, []disk.File{file("a", "x")}, api.ErrFull},
		{5, []disk.File{file("a", "abc"), file("b", ""), file("c", "def")}, api.ErrFull},
		{5, []disk.File{file("a", "abcdef"), file("A", "")}, api.ErrName},
		{5, []disk.File{file("a", "abcdef"), file("a", "")}, api.ErrHave},
		{6, []disk.File{file("a", "abc"), file("b", ""), file("c", "def")}, api.OK},
		{0, []disk.File{file("a", ""), file(a64, "")}, api.OK},
		{0, nil, api.OK},
	} {
		d, e := disk.Of(c.capacity, c.files...)
		if e != c.want || (d == nil) != (e != api.OK) {
			t.Errorf("%d: %d, not %d", k, e, c.want)
		}
	}
	for _, s := range wrong() {
		if d, e := disk.Of(0, file("a", ""), file(s, "x")); d != nil || e != api.ErrName {
			t.Errorf("Of %q: %d", s, e)
		}
	}
}

// P3.1: a disk with files has them, all synced, whatever their order.
func TestOf(t *testing.T) {
	b := made(t, 10, file("c", "xyz"), file("a", ""), disk.File{Name: "b-1", Data: nil}, file("b", "\x00\xff"), file(a64, "12345"))
	if !slices.Equal(b.d.List(), []string{"a", a64, "b", "b-1", "c"}) || b.d.Used() != 10 {
		t.Errorf("List %q, Used %d", b.d.List(), b.d.Used())
	}
	b.tells(t, api.ErrFull, write("a", "x"))
	was := b.p.copy()
	b.do(t, crash())
	stands(t, "a crash of what is synced", b.d, was)
}

// P3.1: as many bytes as there may be, and one more.
func TestMaxDisk(t *testing.T) {
	all := make([]byte, api.MaxDisk)
	half := all[:api.MaxDisk/2]
	d, e := disk.Of(api.MaxDisk, disk.File{Name: "a", Data: half}, disk.File{Name: "b", Data: half})
	if e != api.OK || d.Used() != api.MaxDisk {
		t.Fatalf("Of: %d", e)
	}
	if e := d.Append("a", []byte{1}); e != api.ErrFull {
		t.Errorf("Append: %d", e)
	}
	if d, e := disk.Of(api.MaxDisk, disk.File{Name: "a", Data: all}, file("b", "x")); d != nil || e != api.ErrFull {
		t.Errorf("Of: %d", e)
	}
	d, _ = disk.New(api.MaxDisk)
	d.Create("a")
	if e := d.Append("a", all, []byte{1}); e != api.ErrFull || d.Used() != 0 {
		t.Errorf("Append: %d", e)
	}
	if e := d.Append("a", half, nil, half); e != api.OK || d.Used() != api.MaxDisk {
		t.Errorf("Append: %d", e)
	}
	if n, s := d.Size("a"); n != api.MaxDisk || s != 0 {
		t.Errorf("Size: %d, %d", n, s)
	}
}

// P3.2: Create's errors, in their order.
func TestCreate(t *testing.T) {
	b := made(t, 3, file("b", "12"))
	for _, s := range wrong() {
		b.tells(t, api.ErrName, create(s))
	}
	b.tells(t, api.ErrHave, create("b"))
	b.tells(t, api.OK, create(a64))
	b.tells(t, api.ErrHave, create(a64))
	b.tells(t, api.OK, create("a"))
	b.tells(t, api.OK, create("z"))
	b.tells(t, api.OK, write("z", "3"))
	b.tells(t, api.OK, create("y"))
	b.tells(t, api.OK, remove("b"))
	b.tells(t, api.OK, create("b"))
}

// P3.2: as many files as there may be, and one more.
func TestMaxFiles(t *testing.T) {
	b := full(t, 10)
	if len(b.d.List()) != api.MaxFiles {
		t.Fatalf("%d files", len(b.d.List()))
	}
	b.tells(t, api.ErrName, create("A"))
	b.tells(t, api.ErrHave, create("f7"))
	b.tells(t, api.ErrMany, create("g"))
	b.tells(t, api.OK, rename("f7", "g"))
	b.tells(t, api.ErrMany, create("f7"))
	b.tells(t, api.OK, rename("f8", "g"))
	b.tells(t, api.OK, create("f7"))
	b.tells(t, api.ErrMany, create("f8"))
	b.tells(t, api.OK, remove("g"))
	b.tells(t, api.OK, create("f8"))
	b.tells(t, api.ErrMany, create("g"))
	b.tells(t, api.OK, crash())
	b.tells(t, api.ErrMany, create("g"))
	if b.copy().tells(t, api.ErrMany, create("g")); len(b.d.Copy().List()) != 1024 {
		t.Errorf("a copy has %d files", len(b.d.Copy().List()))
	}
	d, _ := disk.New(0)
	for k := range 1024 {
		if e := d.Create(strconv.Itoa(k)); e != api.OK {
			t.Fatalf("Create %d: %d", k, e)
		}
	}
	if e := d.Create("x"); e != api.ErrMany || len(d.List()) != 1024 || d.Steps() != 1025 {
		t.Errorf("Create: %d", e)
	}
}

// P3.2: appends of many parts, of none, and of one byte more than there is room.
func TestAppend(t *testing.T) {
	b := made(t, 10, file("a", "12"), file("b", ""))
	b.tells(t, api.ErrNone, write("c"))
	b.tells(t, api.ErrNone, write("", strings.Repeat("x", 50)))
	b.tells(t, api.ErrNone, write("A", ""))
	b.tells(t, api.OK, write("a"))
	b.tells(t, api.OK, write("a", ""))
	b.tells(t, api.OK, write("a", "", "", ""))
	b.tells(t, api.ErrFull, write("a", "345678901"))
	b.tells(t, api.ErrFull, write("b", "3456", "", "78901"))
	b.tells(t, api.ErrFull, write("b", "", "345678901", ""))
	b.tells(t, api.ErrFull, write("b", strings.Split("345678901", "")...))
	b.tells(t, api.OK, write("a", "", "34", "", "5", ""))
	b.tells(t, api.OK, write("b", "x"))
	b.tells(t, api.ErrFull, write("a", "6789x"))
	b.tells(t, api.OK, write("a", strings.Split("6789", "")...))
	b.tells(t, api.OK, write("a"))
	b.tells(t, api.OK, write("b", "", ""))
	b.tells(t, api.ErrFull, write("b", "y"))
	b.tells(t, api.OK, remove("b"))
	b.tells(t, api.OK, write("a", "y"))
	b.tells(t, api.ErrFull, write("a", "z"))
	if x, _ := b.d.Read("a"); string(x) != "123456789y" {
		t.Errorf("Read: %q", x)
	}
}

// P3.2: an append of more bytes than an int has is full, not passed over.
func TestAppendWide(t *testing.T) {
	d, _ := disk.Of(api.MaxDisk, file("a", ""))
	wide := make([]byte, 1<<20)
	parts := make([][]byte, 1<<12)
	for k := range parts {
		parts[k] = wide
	}
	if e := d.Append("a", parts...); e != api.ErrFull || d.Used() != 0 {
		t.Errorf("Append: %d", e)
	}
	if e := d.Append("a", parts[:64]...); e != api.OK || d.Used() != api.MaxDisk {
		t.Errorf("Append: %d", e)
	}
}

// P3.2: Sync and Remove.
func TestSyncRemove(t *testing.T) {
	b := made(t, 10, file("a", "12"), file("b", ""))
	for _, s := range append(wrong(), "c") {
		b.tells(t, api.ErrNone, sync(s))
		b.tells(t, api.ErrNone, remove(s))
	}
	b.tells(t, api.OK, sync("b"))
	b.tells(t, api.OK, write("a", "345"))
	b.tells(t, api.OK, write("b", "67"))
	b.tells(t, api.OK, sync("a"))
	b.tells(t, api.OK, sync("a"))
	b.tells(t, api.OK, remove("a"))
	b.tells(t, api.ErrNone, remove("a"))
	b.tells(t, api.ErrNone, sync("a"))
	b.tells(t, api.OK, create("a"))
	b.tells(t, api.OK, crash(keep(0), keep(1)))
	if x, _ := b.d.Read("b"); string(x) != "6" {
		t.Errorf("Read: %q", x)
	}
}

// P3.2: a rename onto itself, onto another file, to a name that isn't right.
func TestRename(t *testing.T) {
	b := made(t, 10, file("a", "12"), file("b", "345"))
	b.tells(t, api.OK, write("a", "6"))
	b.tells(t, api.OK, write("b", "78"))
	for _, s := range wrong() {
		b.tells(t, api.ErrName, rename("a", s))
		b.tells(t, api.ErrNone, rename(s, "a"))
		b.tells(t, api.ErrNone, rename(s, "c"))
		b.tells(t, api.ErrNone, rename(s, s))
		b.tells(t, api.ErrNone, rename("c", s))
	}
	b.tells(t, api.ErrNone, rename("c", "c"))
	b.tells(t, api.ErrNone, rename("c", "a"))
	b.tells(t, api.OK, rename("a", "a"))
	b.tells(t, api.OK, rename("a", a64))
	b.tells(t, api.OK, rename(a64, "b"))
	if x, _ := b.d.Read("b"); string(x) != "126" || b.d.Used() != 3 {
		t.Errorf("Read: %q", x)
	}
	b.tells(t, api.ErrNone, rename("a", "b"))
	b.tells(t, api.OK, create("a"))
	b.tells(t, api.OK, rename("a", "b"))
	b.tells(t, api.OK, rename("b", "a"))
}

// commands is one of each kind that would be done, and some that would be refused.
func commands() (done, refused []op) {
	done = []op{create("c"), write("a"), write("a", "x", "", "yz"), write("b", "x"), sync("a"), sync("b"), remove("a"), remove("b"), rename("a", "c"), rename("a", "b"), rename("a", "a")}
	refused = []op{create("A"), create(""), create("a"), write("c"), write("c", "x"), write("a", "12345678"), write("", "x"), sync("c"), sync(""), remove("c"), rename("c", "a"), rename("a", "A"), rename("c", "A")}
	return done, refused
}

// P3.2, P3.3: the power goes at each kind of command, the n-th behind Arm.
func TestPower(t *testing.T) {
	done, refused := commands()
	for _, last := range append(done, refused...) {
		for n := 1; n <= 4; n++ {
			for _, ahead := range append(refused, write("b", "z"), sync("b")) {
				b := made(t, 12, file("a", "12"), file("b", "34"))
				b.tells(t, api.OK, write("a", "5"))
				b.do(t, arm(n))
				for range n - 1 {
					b.do(t, ahead)
				}
				b.tells(t, api.ErrDown, last)
				if !b.d.Down() || b.d.Steps() != n+1 {
					t.Errorf("%+v: Down %v, Steps %d", last, b.d.Down(), b.d.Steps())
				}
				b.do(t, crash(keep(100), flip(1, 0, 1)))
				b.do(t, last)
			}
		}
	}
}

// P3.2: of an append at which the power goes the bytes stand in the tail; of others nothing does.
func TestPowerTorn(t *testing.T) {
	for k, c := range []struct {
		o     op
		names []string
		a     string
	}{
		{write("a", "x", "", "yz"), []string{"a", "b"}, "125xyz"},
		{write("a", "x", "y", "1234"), []string{"a", "b"}, "125"},
		{write("c", "x"), []string{"a", "b"}, "125"},
		{write("a"), []string{"a", "b"}, "125"},
		{create("c"), []string{"a", "b"}, "125"},
		{remove("b"), []string{"a", "b"}, "125"},
		{rename("b", "c"), []string{"a", "b"}, "125"},
		{rename("b", "a"), []string{"a", "b"}, "125"},
	} {
		for stays := range uint(5) {
			d, _ := disk.Of(10, file("a", "12"), file("b", "34"))
			d.Append("a", []byte("5"))
			d.Arm(1)
			run(d, c.o)
			if x := d.Steps(); x != 2 || d.Used() != 0 || d.List() != nil {
				t.Errorf("%d: Steps %d", k, x)
			}
			d.Crash(keep(stays))
			want := c.a[:2+stays%uint(len(c.a)-1)]
			if x, e := d.Read("a"); string(x) != want || e != api.OK {
				t.Errorf("%d: %q, %d, not %q", k, x, e, want)
			}
			if l := d.List(); !slices.Equal(l, c.names) {
				t.Errorf("%d: %q", k, l)
			}
			if n, s := d.Size("a"); n != len(want) || s != n || d.Used() != 2+n || d.Down() {
				t.Errorf("%d: Size %d, %d, Used %d", k, n, s, d.Used())
			}
		}
	}
	b := made(t, 10, file("a", "12"))
	b.do(t, write("a", "3"))
	b.do(t, arm(1))
	b.tells(t, api.ErrDown, sync("a"))
	b.do(t, crash())
	if x, _ := b.d.Read("a"); string(x) != "12" {
		t.Errorf("a Sync at which the power went: %q", x)
	}
}

// P3.3: Arm of 0 and less, again, of the greatest, and of a disk that is down.
func TestArm(t *testing.T) {
	for _, n := range []int{0, -1, -2, math.MinInt, math.MaxInt} {
		b := made(t, 100, file("a", ""))
		b.do(t, arm(n))
		for range 50 {
			b.tells(t, api.OK, write("a", "x"))
		}
		b.do(t, arm(1))
		b.do(t, arm(n))
		for range 10 {
			b.tells(t, api.OK, sync("a"))
		}
	}
	b := made(t, 100, file("a", ""))
	b.do(t, arm(2))
	b.tells(t, api.OK, sync("a"))
	b.do(t, arm(2))
	b.tells(t, api.OK, sync("a"))
	b.do(t, arm(3))
	b.d.Read("a")
	b.d.List()
	b.d.Size("a")
	b.d.Used()
	b.d.Copy().Sync("a")
	b.tells(t, api.OK, sync("a"))
	b.tells(t, api.ErrName, create("A"))
	b.tells(t, api.ErrDown, sync("a"))
	for _, n := range []int{5, 1, 0, -1} {
		b.do(t, arm(n))
		b.tells(t, api.ErrDown, sync("a"))
	}
	b.do(t, arm(1))
	b.do(t, crash())
	for range 5 {
		b.tells(t, api.OK, sync("a"))
	}
	b.do(t, arm(1))
	b.do(t, crash())
	for range 5 {
		b.tells(t, api.OK, sync("a"))
	}
}

// P3.2, P3.3: what every call tells of a disk that is down, and that none does anything.
func TestDown(t *testing.T) {
	b := made(t, 12, file("a", "12"), file("b", "34"))
	b.do(t, write("a", "567"))
	b.do(t, arm(1))
	b.tells(t, api.ErrDown, write("b", "89"))
	was := b.p.copy()
	done, refused := commands()
	for _, o := range append(done, refused...) {
		b.tells(t, api.ErrDown, o)
	}
	stands(t, "down", b.d, was, "a", "b", "c", "", "A")
	for _, name := range []string{"a", "b", "c", "", "A"} {
		if x, e := b.d.Read(name); x != nil || e != api.ErrDown {
			t.Errorf("Read(%q): %q, %d", name, x, e)
		}
	}
	if b.d.Capacity() != 12 || !b.d.Down() || b.d.Steps() != 2 || b.d.Used() != 0 || len(b.d.List()) != 0 {
		t.Errorf("Capacity %d, Steps %d", b.d.Capacity(), b.d.Steps())
	}
	b.do(t, crash(keep(2), flip(1, 0, 2)))
	x, _ := b.d.Read("a")
	y, _ := b.d.Read("b")
	if string(x) != "1256" || string(y) != "34:" || b.d.Used() != 7 {
		t.Errorf("behind a crash: %q, %q, %d", x, y, b.d.Used())
	}
}

// P3.3: crashes with choices at their bounds, of a disk that is down and of one that isn't.
func TestCrash(t *testing.T) {
	greatest := uint(math.MaxUint)
	for k, l := range [][]disk.Choice{
		nil,
		{},
		{keep(1)},
		{keep(3), keep(3), keep(3), keep(3)},
		{keep(4), keep(2), keep(1)},
		{keep(greatest), keep(greatest), keep(greatest), keep(greatest), keep(greatest)},
		{flip(greatest, greatest, 255), flip(greatest-1, greatest-1, 255), flip(greatest-2, greatest-2, 128), flip(greatest-3, greatest, 1)},
		{flip(0, 0, 255), flip(0, 5, 255), flip(4, 0, 255), flip(1, 0, 255)},
		{flip(3, 0, 1), flip(2, 1, 2), flip(2, 2, 4), flip(1, 9, 8)},
		{flip(3, 3, 1), flip(3, 4, 2), flip(3, 5, 4), flip(3, 6, 8)},
		{flip(7, 2, 0), flip(6, 1, 0), flip(5, 0, 0), flip(1, 1, 0)},
		{{}, {}, {}, keep(1), flip(3, 1, 1), flip(3, 1, 1), flip(3, 1, 1)},
	} {
		for _, n := range []int{0, 1, 2, 50} {
			b := made(t, 100, file("d", "uvw"), file("b", "12"), file("a", ""), file("c", "x"))
			b.do(t, write("a", "345"))
			b.do(t, write("b", "67"))
			b.do(t, write("d", "y"))
			b.do(t, arm(n))
			b.do(t, write("b", "8"))
			b.do(t, write("d", "z"))
			steps := b.d.Steps()
			b.do(t, crash(l...))
			if b.d.Down() || b.d.Steps() != steps {
				t.Errorf("%d: Down %v, Steps %d, not %d", k, b.d.Down(), b.d.Steps(), steps)
			}
			was := b.p.copy()
			b.do(t, crash(flip(1, 0, 1), flip(1, 0, 1), flip(1, 0, 1), flip(1, 0, 1)))
			stands(t, "a crash of what is synced", b.d, was)
			b.tells(t, api.OK, write("b", "9"))
			b.tells(t, api.OK, sync("b"))
		}
	}
}

// P3.3: each keep, each place, each flip of one tail, by hand.
func TestCrashTail(t *testing.T) {
	for tail := range uint(6) {
		for stays := range uint(15) {
			for at := range uint(8) {
				d, _ := disk.Of(50, file("a", "12"), file("b", "34"))
				d.Append("b", []byte("vwxyz")[:tail])
				d.Crash(disk.Choice{Keep: 9, At: 1, Flip: 77}, flip(stays, at, byte(3*stays)))
				want := []byte("34" + "vwxyz"[:stays%(tail+1)])
				if n := stays % (tail + 1); n > 0 {
					want[2+at%n] ^= byte(3 * stays)
				}
				if x, e := d.Read("b"); !bytes.Equal(x, want) || e != api.OK {
					t.Errorf("tail %d, Keep %d, At %d: %q, %d, not %q", tail, stays, at, x, e, want)
				}
				if x, _ := d.Read("a"); string(x) != "12" {
					t.Errorf("the file without a tail: %q", x)
				}
				if n, s := d.Size("b"); n != len(want) || s != n || d.Used() != 2+n {
					t.Errorf("Size %d, %d, Used %d", n, s, d.Used())
				}
			}
		}
	}
}

// P3.3: choices are by rising names, not by the order in which files came.
func TestCrashOrder(t *testing.T) {
	d, _ := disk.New(5000)
	names := []string{"m", "z", "a", "10", "9", "-", ".", "_", "b.1", "b", "b-1", "b_1", "b1", "ba", a64}
	for _, name := range names {
		d.Create(name)
		d.Append(name, bytes.Repeat([]byte{'x'}, 100))
	}
	d.Rename("z", "0")
	rising := []string{"-", ".", "0", "10", "9", "_", "a", a64, "b", "b-1", "b.1", "b1", "b_1", "ba", "m"}
	if l := d.List(); !slices.Equal(l, rising) {
		t.Fatalf("List %q", l)
	}
	var l []disk.Choice
	for k := range rising {
		l = append(l, keep(uint(k+1)))
	}
	d.Crash(l...)
	for k, name := range rising {
		if n, s := d.Size(name); n != k+1 || s != k+1 {
			t.Errorf("%q: %d, %d, not %d", name, n, s, k+1)
		}
	}
}

// P3.3: a copy is the same, armed or down or neither, and another one.
func TestCopy(t *testing.T) {
	for _, ahead := range [][]op{
		nil,
		{write("a", "56")},
		{write("a", "56"), arm(1)},
		{write("a", "56"), arm(3), sync("b")},
		{write("a", "56"), arm(1), write("b", "7")},
		{write("a", "56"), arm(1), write("b", "7"), crash(keep(1), keep(1))},
		{write("a", "56"), arm(1), arm(0)},
	} {
		done, refused := commands()
		for _, o := range append(done, refused...) {
			b := made(t, 15, file("a", "12"), file("b", "34"))
			for _, x := range ahead {
				b.do(t, x)
			}
			c := b.copy()
			stands(t, "a copy", c.d, b.p, "a", "b", "c")
			twice := []op{o, o, arm(2), o, write("a", "9"), crash(flip(1, 0, 3), flip(2, 1, 5)), write("b", "!"), create("q")}
			for _, x := range twice {
				b.do(t, x)
				stands(t, "the copy", c.d, c.p, "a", "b", "c", "q")
			}
			was := b.p.copy()
			for _, x := range twice {
				c.do(t, x)
				stands(t, "what was copied", b.d, was, "a", "b", "c", "q")
			}
		}
	}
}
