package disk_test

import (
	"slices"
	"strings"
	"testing"

	"mutoscope/api"
	"mutoscope/disk"
)

// right is all that a file's name may have.
const right = "abcdefghijklmnopqrstuvwxyz0123456789.-_"

// plainName is the chapter's words on a file's name.
func plainName(s string) bool {
	for k := range len(s) {
		if !strings.Contains(right, s[k:k+1]) {
			return false
		}
	}
	return 1 <= len(s) && len(s) <= 64
}

// plainFile is a file, by the chapter's words.
type plainFile struct{ name, synced, tail string }

// plain is a disk, by the chapter's words: its files by rising names, and at
// which of its commands the power goes.
type plain struct {
	capacity, steps, goes int
	down                  bool
	files                 []plainFile
}

// copy is another one.
func (p plain) copy() plain {
	p.files = slices.Clone(p.files)
	return p
}

// at is a file's place, or -1.
func (p *plain) at(name string) int {
	return slices.IndexFunc(p.files, func(f plainFile) bool { return f.name == name })
}

// used is how many bytes all files have.
func (p *plain) used() int {
	n := 0
	for _, f := range p.files {
		n += len(f.synced) + len(f.tail)
	}
	return n
}

// sort puts the files by rising names.
func (p *plain) sort() {
	slices.SortFunc(p.files, func(a, b plainFile) int { return strings.Compare(a.name, b.name) })
}

// op is one call that changes something.
type op struct {
	call     string
	name, to string
	parts    []string
	n        int
	choices  []disk.Choice
}

// refusal is what a command tells of a disk whose power is there.
func (p *plain) refusal(o op) api.Errno {
	switch at := p.at(o.name); {
	case o.call == "create" && !plainName(o.name):
		return api.ErrName
	case o.call == "create" && at >= 0:
		return api.ErrHave
	case o.call == "create" && len(p.files) >= 1024:
		return api.ErrMany
	case o.call != "create" && at < 0:
		return api.ErrNone
	case o.call == "append" && p.used()+len(strings.Join(o.parts, "")) > p.capacity:
		return api.ErrFull
	case o.call == "rename" && !plainName(o.to):
		return api.ErrName
	}
	return api.OK
}

// change does a command that isn't refused.
func (p *plain) change(o op) {
	at := p.at(o.name)
	switch o.call {
	case "create":
		p.files = append(p.files, plainFile{name: o.name})
	case "append":
		p.files[at].tail += strings.Join(o.parts, "")
	case "sync":
		p.files[at].synced += p.files[at].tail
		p.files[at].tail = ""
	case "remove":
		p.files = slices.Delete(p.files, at, at+1)
	case "rename":
		f := p.files[at]
		p.files = slices.DeleteFunc(p.files, func(g plainFile) bool { return g.name == o.name || g.name == o.to })
		f.name = o.to
		p.files = append(p.files, f)
	}
	p.sort()
}

// do is a call of the chapter, and what it tells.
func (p *plain) do(o op) api.Errno {
	switch {
	case o.call == "crash":
		p.crash(o.choices)
		return api.OK
	case o.call == "arm" && !p.down && o.n > 0:
		p.goes = p.steps + o.n
		return api.OK
	case o.call == "arm" && !p.down:
		p.goes = -1
		return api.OK
	case o.call == "arm":
		return api.OK
	case p.down:
		return api.ErrDown
	}
	p.steps++
	p.down = p.steps == p.goes
	e := p.refusal(o)
	if e == api.OK && (!p.down || o.call == "append") {
		p.change(o)
	}
	if p.down {
		return api.ErrDown
	}
	return e
}

// crash is one by choices.
func (p *plain) crash(l []disk.Choice) {
	for k, f := range p.files {
		var c disk.Choice
		if k < len(l) {
			c = l[k]
		}
		stays := []byte(f.tail)[:c.Keep%uint(len(f.tail)+1)]
		if len(stays) > 0 {
			stays[c.At%uint(len(stays))] ^= c.Flip
		}
		p.files[k] = plainFile{name: f.name, synced: f.synced + string(stays)}
	}
	p.down, p.goes = false, -1
}

// run is the same call of a disk.
func run(d *disk.Disk, o op) api.Errno {
	switch o.call {
	case "create":
		return d.Create(o.name)
	case "append":
		var parts [][]byte
		for _, s := range o.parts {
			parts = append(parts, []byte(s))
		}
		return d.Append(o.name, parts...)
	case "sync":
		return d.Sync(o.name)
	case "remove":
		return d.Remove(o.name)
	case "rename":
		return d.Rename(o.name, o.to)
	case "arm":
		d.Arm(o.n)
	case "crash":
		d.Crash(o.choices...)
	}
	return api.OK
}

// stands fails if something that d tells isn't what p says, of its own files
// and of those that others are asked for.
func stands(t *testing.T, what string, d *disk.Disk, p plain, others ...string) {
	t.Helper()
	if d.Capacity() != p.capacity || d.Down() != p.down || d.Steps() != p.steps {
		t.Errorf("%s: Capacity %d, Down %v, Steps %d, not %d, %v, %d", what, d.Capacity(), d.Down(), d.Steps(), p.capacity, p.down, p.steps)
	}
	none := api.ErrNone
	if p.down {
		p.files, none = nil, api.ErrDown
	}
	if d.Used() != p.used() {
		t.Errorf("%s: Used %d, not %d", what, d.Used(), p.used())
	}
	var names []string
	for _, f := range p.files {
		names = append(names, f.name)
		all := f.synced + f.tail
		if b, e := d.Read(f.name); string(b) != all || e != api.OK {
			t.Errorf("%s: Read(%q): %q, %d, not %q", what, f.name, b, e, all)
		}
		if n, s := d.Size(f.name); n != len(all) || s != len(f.synced) {
			t.Errorf("%s: Size(%q): %d, %d, not %d, %d", what, f.name, n, s, len(all), len(f.synced))
		}
	}
	if l := d.List(); !slices.Equal(l, names) {
		t.Errorf("%s: List %q, not %q", what, l, names)
	}
	for _, name := range others {
		if p.at(name) >= 0 {
			continue
		}
		if b, e := d.Read(name); len(b) != 0 || e != none {
			t.Errorf("%s: Read(%q): %q, %d, not %d", what, name, b, e, none)
		}
		if n, s := d.Size(name); n != 0 || s != 0 {
			t.Errorf("%s: Size(%q): %d, %d", what, name, n, s)
		}
	}
}

// pair is a disk, and what the chapter's words say of it.
type pair struct {
	d *disk.Disk
	p plain
}

// made is a disk of files, and the words' one.
func made(t *testing.T, capacity int, files ...disk.File) *pair {
	t.Helper()
	d, e := disk.Of(capacity, files...)
	if e != api.OK || d == nil {
		t.Fatalf("Of: %d", e)
	}
	p := plain{capacity: capacity, goes: -1}
	for _, f := range files {
		p.files = append(p.files, plainFile{name: f.Name, synced: string(f.Data)})
	}
	p.sort()
	both := &pair{d, p}
	stands(t, "Of", d, p)
	return both
}

// do fails if the disk tells otherwise than the words, or stands otherwise.
func (b *pair) do(t *testing.T, o op) api.Errno {
	t.Helper()
	got, want := run(b.d, o), b.p.do(o)
	if got != want {
		t.Errorf("%+v: %d, not %d", o, got, want)
	}
	stands(t, o.call, b.d, b.p, o.name, o.to, "nowhere")
	return got
}

// tells fails if a call doesn't tell want, or if the words don't.
func (b *pair) tells(t *testing.T, want api.Errno, o op) {
	t.Helper()
	if got := b.do(t, o); got != want {
		t.Errorf("%+v: %d, not %d", o, got, want)
	}
}

// copy is another pair, the same.
func (b *pair) copy() *pair {
	return &pair{b.d.Copy(), b.p.copy()}
}

func create(name string) op                 { return op{call: "create", name: name} }
func write(name string, parts ...string) op { return op{call: "append", name: name, parts: parts} }
func sync(name string) op                   { return op{call: "sync", name: name} }
func remove(name string) op                 { return op{call: "remove", name: name} }
func rename(from, to string) op             { return op{call: "rename", name: from, to: to} }
func arm(n int) op                          { return op{call: "arm", n: n} }
func crash(l ...disk.Choice) op             { return op{call: "crash", choices: l} }
func file(name, data string) disk.File      { return disk.File{Name: name, Data: []byte(data)} }
func keep(n uint) disk.Choice               { return disk.Choice{Keep: n} }
func flip(n, at uint, by byte) disk.Choice  { return disk.Choice{Keep: n, At: at, Flip: by} }
