package rec_test

import (
	"bytes"
	"slices"
	"testing"

	"mutoscope/rec"
)

// The rule of memory: what is handed to Bytes is neither changed nor kept, its spare room neither.
func TestBytesMemory(t *testing.T) {
	room := []byte("123456789")
	l := []rec.Rec{{Kind: 1, Data: room[:3]}, {Kind: 2, Data: room[3:3]}, {Kind: 3, Data: room[2:5]}, {Kind: 4, Data: room[8:]}}
	want := plainRow(l[:3]...)
	one := plainBytes(l[0])
	b := made(t, l[:3]...)
	first := made(t, l[0])
	if string(room) != "123456789" || l[3].Kind != 4 || string(l[3].Data) != "9" || string(l[2].Data) != "345" {
		t.Errorf("handed in: %q, %v", room, l)
	}
	clear(room)
	clear(l)
	if !bytes.Equal(b, want) || !bytes.Equal(first, one) {
		t.Errorf("Bytes, the arguments cleared: % x, % x", b, first)
	}
}

// The rule of memory: what Bytes tells is new, spare room too.
func TestBytesTold(t *testing.T) {
	r := rec.Rec{Kind: 1, Data: []byte("abc")}
	l := []rec.Rec{r, {Kind: 2, Data: []byte{}}}
	for n := range len(l) + 1 {
		want := plainRow(l[:n]...)
		first, second := made(t, l[:n]...), made(t, l[:n]...)
		clear(first[:cap(first)])
		_ = append(first, "more"...)
		if !bytes.Equal(second, want) || string(r.Data) != "abc" {
			t.Errorf("Bytes of %d, the one ahead cleared: % x; %q", n, second, r.Data)
		}
	}
}

// The rule of memory: what is handed to Next and All is neither changed nor kept, and what they tell is new.
func TestToldMemory(t *testing.T) {
	l := ordinary()
	want := plainRow(l...)
	room := append(slices.Clone(want), "spare"...)
	b := room[:len(want)]
	r, size, _ := rec.Next(b)
	again, _, _ := rec.Next(b)
	rows, good, _ := rec.All(b)
	others, _, _ := rec.All(b)
	spoil(r)
	for k := range rows[:len(rows)-1] {
		spoil(rows[k])
		if !slices.EqualFunc(rows[k+1:], l[k+1:], alike) {
			t.Errorf("All: the record %d shares memory with one behind it", k)
		}
	}
	for k := len(others) - 1; k > 0; k-- {
		spoil(others[k])
		if !slices.EqualFunc(others[:k], l[:k], alike) {
			t.Errorf("All: the record %d shares memory with one ahead of it", k)
		}
	}
	clear(rows[:cap(rows)])
	if size != 7 || good != len(want) || !bytes.Equal(b, want) || string(room[len(want):]) != "spare" {
		t.Errorf("what was told changed what was handed in")
	}
	clear(room)
	if !alike(again, l[0]) || !alike(others[0], l[0]) {
		t.Errorf("told, what was handed in cleared: %v, %v", again, others[0])
	}
}

// spoil turns all bits of a record's Data, and clears its spare room.
func spoil(r rec.Rec) {
	for k := range r.Data {
		r.Data[k] = ^r.Data[k]
	}
	clear(r.Data[len(r.Data):cap(r.Data)])
}

// The rule of memory: All tells new memory beside an error, too, and Equal leaves what it is handed.
func TestToldMemoryBesideAnError(t *testing.T) {
	one, two := rec.Rec{Kind: 1, Data: []byte("ab")}, rec.Rec{Kind: 2, Data: []byte("cd")}
	b := made(t, one, two, one)
	was := slices.Clone(b)
	l, good, e := rec.All(b[:len(b)-1])
	if len(l) != 2 || good != 16 {
		t.Fatalf("All: %d records, good %d, %d", len(l), good, e)
	}
	spoil(l[0])
	if !alike(l[1], two) || !bytes.Equal(b, was) {
		t.Errorf("All, the first record spoilt: %v, % x", l[1], b)
	}
	if !rec.Equal(l[1], two) || rec.Equal(l[0], one) || string(one.Data) != "ab" || string(two.Data) != "cd" {
		t.Errorf("Equal changed its arguments: %v, %v", one, two)
	}
}
