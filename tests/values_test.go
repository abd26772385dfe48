package tests

import (
	"reflect"
	"slices"
	"testing"
)

// addNumbers takes a value apart into numbers; with spare it also takes what lies behind the ends of slices.
func addNumbers(list []int, v reflect.Value, spare bool) []int {
	switch v.Kind() {
	case reflect.Bool:
		if v.Bool() {
			return append(list, 1)
		}
		return append(list, 0)
	case reflect.Slice:
		list = append(list, v.Len())
		if spare {
			v = v.Slice(0, v.Cap())
		}
		for k := 0; k < v.Len(); k++ {
			list = addNumbers(list, v.Index(k), spare)
		}
		return list
	case reflect.Struct:
		for k := 0; k < v.NumField(); k++ {
			list = addNumbers(list, v.Field(k), spare)
		}
		return list
	}
	return append(list, int(v.Int()))
}

// same takes a slice that is nil and one that is empty for the same.
func same[T any](a T, b T) bool {
	return slices.Equal(addNumbers(nil, reflect.ValueOf(a), false), addNumbers(nil, reflect.ValueOf(b), false))
}

func checkSame[T any](t *testing.T, name string, got T, want T) {
	t.Helper()
	if !same(got, want) {
		t.Fatalf("%s:\n got %+v\nwant %+v", name, got, want)
	}
}

func isNothing[T any](v T) bool {
	var nothing T
	return same(v, nothing)
}

// clonedValue makes new slices all through a value, with room for so many more elements behind each of them, in which something stands.
func clonedValue(v reflect.Value, room int) reflect.Value {
	own := reflect.New(v.Type()).Elem()
	own.Set(v)
	if v.Kind() == reflect.Struct {
		for k := 0; k < v.NumField(); k++ {
			own.Field(k).Set(clonedValue(v.Field(k), room))
		}
	}
	if v.Kind() == reflect.Slice {
		own.Set(clonedSlice(v, room))
	}
	return own
}

func clonedSlice(v reflect.Value, room int) reflect.Value {
	own := reflect.MakeSlice(v.Type(), v.Len()+room, v.Len()+room)
	for k := 0; k < own.Len(); k++ {
		switch {
		case k < v.Len():
			own.Index(k).Set(clonedValue(v.Index(k), room))
		case v.Type().Elem().Kind() == reflect.Int:
			own.Index(k).SetInt(1234)
		case v.Len() > 0:
			own.Index(k).Set(clonedValue(v.Index(0), room))
		}
	}
	return own.Slice(0, v.Len())
}

func cloned[T any](v T) T {
	return clonedValue(reflect.ValueOf(v), 0).Interface().(T)
}

func clonedWithRoom[T any](v T) T {
	return clonedValue(reflect.ValueOf(v), 9).Interface().(T)
}

// span is memory from an address up to another one.
type span struct {
	from uintptr
	to   uintptr
}

// addSpans adds the memory of all slices within a value, with what lies behind their ends.
func addSpans(list []span, v reflect.Value) []span {
	switch v.Kind() {
	case reflect.Slice:
		whole := v.Slice(0, v.Cap())
		size := uintptr(v.Cap()) * v.Type().Elem().Size()
		if size > 0 {
			list = append(list, span{v.Pointer(), v.Pointer() + size})
		}
		for k := 0; k < whole.Len(); k++ {
			list = addSpans(list, whole.Index(k))
		}
	case reflect.Struct:
		for k := 0; k < v.NumField(); k++ {
			list = addSpans(list, v.Field(k))
		}
	}
	return list
}

func overlap(a span, b span) bool {
	return a.from < b.to && b.from < a.to
}

// shareMemory tells whether two slices within a value share memory, or one of them with a value that was given.
func shareMemory(answer any, given ...any) bool {
	own := addSpans(nil, reflect.ValueOf(answer))
	others := []span{}
	for _, v := range given {
		others = addSpans(others, reflect.ValueOf(v))
	}
	for k, a := range own {
		for _, b := range slices.Concat(own[:k], others) {
			if overlap(a, b) {
				return true
			}
		}
	}
	return false
}

// wholeOf has all numbers of values, with what lies behind the ends of their slices.
func wholeOf(given ...any) []int {
	list := []int{}
	for _, v := range given {
		list = addNumbers(list, reflect.ValueOf(v), true)
	}
	return list
}

func TestValuesThatShareMemoryAreFound(t *testing.T) {
	type pair struct{ A, B []int }
	row := make([]int, 4, 8)
	if !shareMemory(row, row) || !shareMemory(row[:2], row[3:]) || !shareMemory(row[:0], row[3:]) {
		t.Error("rows of one memory are not found")
	}
	if !shareMemory(pair{row, row[1:]}) || !shareMemory([][]int{row, row}) || !shareMemory([]pair{{A: row}}, pair{B: row}) {
		t.Error("rows of one memory within a value are not found")
	}
	if shareMemory(pair{row, cloned(row)}, clonedWithRoom(row), make([]int, 0), pair{}) {
		t.Error("rows of their own are found")
	}
}

func TestValuesAreComparedAndCloned(t *testing.T) {
	type part struct {
		N  int
		On bool
		In [][]int
	}
	v := part{N: 3, On: true, In: [][]int{{1, 2}, nil, {}}}
	if !same(v, cloned(v)) || !same(v, clonedWithRoom(v)) || !same(v, part{3, true, [][]int{{1, 2}, {}, nil}}) {
		t.Error("the same is another one")
	}
	others := []part{
		{}, {4, true, v.In}, {3, false, v.In}, {3, true, v.In[:2]},
		{3, true, [][]int{{1, 2}, {0}, {}}}, {3, true, [][]int{{1}, {2}, {}}},
	}
	for _, other := range others {
		if same(v, other) {
			t.Errorf("%+v is the same as %+v", other, v)
		}
	}
	if isNothing(v) || !isNothing(part{}) || !isNothing(part{In: [][]int{}}) {
		t.Error("nothing is something, or something nothing")
	}
	row := clonedWithRoom([]int{1, 2})
	before := wholeOf(row)
	row = append(row, 5)
	if slices.Equal(wholeOf(row[:2]), before) {
		t.Error("what is written behind the end of a row is not seen")
	}
}
