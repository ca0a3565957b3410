package disk_test

import (
	"bytes"
	"slices"
	"testing"

	"mutoscope/api"
	"mutoscope/disk"
)

// holds fails if a file isn't of these bytes.
func holds(t *testing.T, what string, d *disk.Disk, name, want string) {
	t.Helper()
	if b, e := d.Read(name); string(b) != want || e != api.OK {
		t.Errorf("%s: %q, %d, not %q", what, b, e, want)
	}
}

// The rule of memory: what is handed to Of is neither changed nor kept, its spare room neither.
func TestOfMemory(t *testing.T) {
	room := []byte("123456789")
	files := []disk.File{{Name: "b", Data: room[:3]}, {Name: "a", Data: room[3:5]}, {Name: "c", Data: room[3:5]}}
	d, _ := disk.Of(100, files[:2]...)
	d.Append("b", []byte("xy"))
	d.Append("a", []byte("z"))
	d.Crash(flip(1, 0, 1), flip(2, 0, 1))
	if string(room) != "123456789" || files[0].Name != "b" || len(files[0].Data) != 3 || files[2].Name != "c" {
		t.Errorf("handed in: %q, %v", room, files)
	}
	clear(room)
	clear(files)
	holds(t, "Of", d, "b", "123yy")
	holds(t, "Of", d, "a", "45{")
}

// The rule of memory: a file's first bytes, with none behind them, aren't those that were handed in.
func TestFirstBytesMemory(t *testing.T) {
	one, two, three := []byte("123"), []byte("456"), []byte("789")
	d, _ := disk.Of(100, disk.File{Name: "a", Data: one}, file("b", ""), file("c", ""))
	d.Append("b", two)
	d.Append("c", nil, three, nil)
	clear(one)
	clear(two)
	holds(t, "Of", d, "a", "123")
	holds(t, "Append", d, "b", "456")
	d.Crash(keep(0), keep(0), flip(2, 0, 1))
	holds(t, "a crash", d, "c", "68")
	if string(three) != "789" {
		t.Errorf("handed in: %q", three)
	}
}

// The rule of memory: what is handed to Append is neither changed nor kept.
func TestAppendMemory(t *testing.T) {
	d, _ := disk.Of(100, file("a", ""), file("b", ""))
	room := []byte("123456789")
	parts := [][]byte{room[:3], room[2:4], nil, room[4:5]}
	d.Append("a", parts[:3]...)
	d.Append("b", room[:2])
	d.Append("a", []byte("x"))
	d.Append("b", []byte("y"))
	if string(room) != "123456789" || len(parts[3]) != 1 || parts[2] != nil || string(parts[1]) != "34" {
		t.Errorf("handed in: %q, %q", room, parts)
	}
	clear(room)
	clear(parts)
	holds(t, "Append", d, "a", "12334x")
	holds(t, "Append", d, "b", "12y")
	d.Arm(1)
	late := []byte("late")
	d.Append("a", late)
	clear(late)
	d.Crash(keep(10))
	holds(t, "an append at which the power went", d, "a", "12334xlate")
}

// The rule of memory: what Read and List tell is new, spare room too.
func TestToldMemory(t *testing.T) {
	d, _ := disk.Of(1000, file("a", "123"), file("b", "45"))
	for range 60 {
		d.Append("a", []byte("6"))
		x, _ := d.Read("a")
		y, _ := d.Read("a")
		want := bytes.Clone(y)
		clear(x[:cap(x)])
		d.Append("a", []byte("7"))
		if !bytes.Equal(y, want) {
			t.Fatalf("Read, told ahead: %q", y)
		}
		if z, _ := d.Read("a"); !bytes.Equal(z, append(want, '7')) {
			t.Fatalf("Read: %q", z)
		}
		clear(y[:cap(y)])
	}
	told, _ := d.Read("b")
	d.Append("b", []byte("xy"))
	d.Crash(keep(0), flip(1, 0, 1))
	if string(told) != "45" {
		t.Errorf("told ahead of a crash: %q", told)
	}
	l, m := d.List(), d.List()
	_ = append(l, "x")
	clear(l[:cap(l)])
	if !slices.Equal(m, []string{"a", "b"}) || !slices.Equal(d.List(), []string{"a", "b"}) {
		t.Errorf("List: %q, %q", m, d.List())
	}
	d.Rename("a", "c")
	if !slices.Equal(m, []string{"a", "b"}) {
		t.Errorf("List, told ahead: %q", m)
	}
}

// The rule of memory: a crash doesn't change its choices, a copy shares nothing with what was copied.
func TestCopyMemory(t *testing.T) {
	d, _ := disk.Of(1000, file("a", "123"), file("b", "45"))
	for range 5 {
		d.Append("a", []byte("67"))
	}
	c := d.Copy()
	c.Append("a", []byte("copy"))
	d.Append("a", []byte("disk"))
	c.Append("b", []byte("c"))
	d.Append("b", []byte("d"))
	holds(t, "the copy", c, "a", "1236767676767copy")
	holds(t, "what was copied", d, "a", "1236767676767disk")
	l := []disk.Choice{flip(1, 0, 1), flip(1, 0, 1), keep(3)}
	want := slices.Clone(l)
	d.Crash(l...)
	if !slices.Equal(l, want) {
		t.Errorf("choices: %v", l)
	}
	holds(t, "the copy", c, "a", "1236767676767copy")
	holds(t, "the copy", c, "b", "45c")
	holds(t, "what was copied", d, "a", "1237")
	holds(t, "what was copied", d, "b", "45e")
}
