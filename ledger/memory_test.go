package ledger_test

import (
	"bytes"
	"cmp"
	"reflect"
	"slices"
)

// same: are two things of one type the same, lists element by element?
func same(a, b any) bool { return alike(reflect.ValueOf(a), reflect.ValueOf(b)) }

// alike: are two values the same, a list without elements being like none?
func alike(a, b reflect.Value) bool {
	switch {
	case a.Kind() == reflect.Slice && a.Type().Elem().Kind() == reflect.Uint8:
		return bytes.Equal(a.Bytes(), b.Bytes())
	case a.Kind() == reflect.Slice:
		if a.Len() != b.Len() {
			return false
		}
		for i := range a.Len() {
			if !alike(a.Index(i), b.Index(i)) {
				return false
			}
		}
		return true
	case a.Kind() == reflect.Struct:
		for i := range a.NumField() {
			if !alike(a.Field(i), b.Field(i)) {
				return false
			}
		}
		return true
	}
	return a.Equal(b)
}

// copied is the same thing, in memory of its own.
func copied[T any](x T) T { return roomy(x, 0) }

// roomy is the same thing, in memory of its own, with so much room behind each list, in which something stands.
func roomy[T any](x T, room int) T {
	out := reflect.New(reflect.TypeOf(x)).Elem()
	lay(out, reflect.ValueOf(x), room)
	return out.Interface().(T)
}

// lay makes out what v is.
func lay(out, v reflect.Value, room int) {
	switch v.Kind() {
	case reflect.Slice:
		n := v.Len()
		l := reflect.MakeSlice(v.Type(), n+room, n+room)
		for i := range n {
			lay(l.Index(i), v.Index(i), room)
		}
		for i := n; i < n+room; i++ {
			ruin(l.Index(i))
		}
		out.Set(l.Slice(0, n))
	case reflect.Struct:
		for i := range v.NumField() {
			lay(out.Field(i), v.Field(i), room)
		}
	default:
		out.Set(v)
	}
}

// spoil writes over all that the lists of a thing hold, their spare room too.
func spoil(x any) { ruin(reflect.ValueOf(x)) }

// ruin writes over a value, where it may, and over all that it holds.
func ruin(v reflect.Value) {
	switch v.Kind() {
	case reflect.Slice:
		l := v.Slice(0, v.Cap())
		for i := range l.Len() {
			ruin(l.Index(i))
		}
		return
	case reflect.Struct:
		for i := range v.NumField() {
			ruin(v.Field(i))
		}
		return
	}
	switch {
	case !v.CanSet():
	case v.Kind() == reflect.Bool:
		v.SetBool(!v.Bool())
	case v.CanInt():
		v.SetInt(-5)
	default:
		v.SetUint(0xA5)
	}
}

// memory is all that a thing holds, the spare room of its lists too, number by number.
func memory(x any) []int64 { return numbers(nil, reflect.ValueOf(x)) }

// numbers is a list with all that a value holds behind it.
func numbers(out []int64, v reflect.Value) []int64 {
	switch {
	case v.Kind() == reflect.Slice:
		out = append(out, int64(v.Len()), int64(v.Cap()))
		l := v.Slice(0, v.Cap())
		for i := range l.Len() {
			out = numbers(out, l.Index(i))
		}
	case v.Kind() == reflect.Struct:
		for i := range v.NumField() {
			out = numbers(out, v.Field(i))
		}
	case v.Kind() == reflect.Bool && v.Bool():
		out = append(out, 1)
	case v.Kind() == reflect.Bool:
		out = append(out, 0)
	case v.CanInt():
		out = append(out, v.Int())
	default:
		out = append(out, int64(v.Uint()))
	}
	return out
}

// span is where a list stands in memory, its spare room too.
type span struct{ from, to uintptr }

// spans is a list with those of all lists of a value behind it.
func spans(out []span, v reflect.Value) []span {
	switch v.Kind() {
	case reflect.Slice:
		if size := uintptr(v.Cap()) * v.Type().Elem().Size(); size > 0 {
			out = append(out, span{v.Pointer(), v.Pointer() + size})
		}
		for i := range v.Len() {
			out = spans(out, v.Index(i))
		}
	case reflect.Struct:
		for i := range v.NumField() {
			out = spans(out, v.Field(i))
		}
	}
	return out
}

// apart: does each list of some things have memory of its own?
func apart(things ...any) bool {
	var all []span
	for _, x := range things {
		all = spans(all, reflect.ValueOf(x))
	}
	slices.SortFunc(all, func(a, b span) int { return cmp.Compare(a.from, b.from) })
	for i := range len(all) - 1 {
		if all[i].to > all[i+1].from {
			return false
		}
	}
	return true
}
