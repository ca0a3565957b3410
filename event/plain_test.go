package event_test

import (
	"reflect"
	"slices"
	"testing"

	"mutoscope/event"
	"mutoscope/scene"
)

// plainEvent is e's plain form, by the chapter's words: all is unset that isn't a field of its Kind, or, in its ops, of theirs.
func plainEvent(e event.Event) event.Event {
	e.Ops = slices.Clone(e.Ops)
	keep(reflect.ValueOf(&e).Elem(), e.Kind, map[string][]int{"Ops": {1}, "X": {2}, "Y": {2}, "N": {3, 4, 5}})
	for k := range e.Ops {
		e.Ops[k] = plainOp(e.Ops[k])
	}
	return e
}

func plainOp(o scene.Op) scene.Op {
	keep(reflect.ValueOf(&o).Elem(), o.Kind, map[string][]int{
		"Id": {1, 2, 3, 4, 5, 6, 7, 8}, "Parent": {1, 3}, "Place": {1, 3}, "Map": {4}, "On": {5, 8}, "Clip": {5}, "N": {6}, "Look": {7},
	})
	return o
}

// keep leaves v its Kind, and those fields for which its Kind is named.
func keep(v reflect.Value, kind int, named map[string][]int) {
	for k := range v.NumField() {
		if name := v.Type().Field(k).Name; name != "Kind" && !slices.Contains(named[name], kind) {
			v.Field(k).SetZero()
		}
	}
}

// leaves is all numbers and bools in v, those of its lists too.
func leaves(v reflect.Value) []reflect.Value {
	var l []reflect.Value
	switch v.Kind() {
	case reflect.Struct:
		for k := range v.NumField() {
			l = append(l, leaves(v.Field(k))...)
		}
	case reflect.Slice:
		for k := range v.Len() {
			l = append(l, leaves(v.Index(k))...)
		}
	default:
		l = append(l, v)
	}
	return l
}

// row is all that v has as one row of numbers, how long its lists are, too: those of two things are the same just if these are, nil and empty lists being one.
func row(v reflect.Value) []uint64 {
	var l []uint64
	switch {
	case v.Kind() == reflect.Struct:
		for k := range v.NumField() {
			l = append(l, row(v.Field(k))...)
		}
	case v.Kind() == reflect.Slice:
		l = append(l, uint64(v.Len()))
		for k := range v.Len() {
			l = append(l, row(v.Index(k))...)
		}
	case v.Kind() == reflect.Bool && v.Bool():
		l = append(l, 1)
	case v.Kind() == reflect.Bool:
		l = append(l, 0)
	case v.CanInt():
		l = append(l, uint64(v.Int()))
	default:
		l = append(l, v.Uint())
	}
	return l
}

// same is whether all of both is the same, by their rows.
func same[T any](a, b T) bool {
	return slices.Equal(row(reflect.ValueOf(a)), row(reflect.ValueOf(b)))
}

// stands fails if e isn't want.
func stands(t *testing.T, e, want event.Event) {
	t.Helper()
	if !same(e, want) {
		t.Fatalf("%v, not %v", e, want)
	}
}
