package rewrite_test

import (
	"bytes"
	"reflect"
	"slices"
	"testing"

	"univocal/api"
	"univocal/class"
	"univocal/rewrite"
)

// A request is the arguments of a call, as far as the function uses them.
type request struct {
	O api.Op
	C api.Class
	B []byte
}

// A result is what a call returns, as far as it is not used by the function.
type result struct {
	B   []byte
	M   api.Transducer
	OK  bool
	Err api.Errno
}

// calls are the functions of the package.
var calls = map[string]func(r request) result{
	"Valid": func(r request) result { return result{Err: rewrite.Valid(r.O)} },
	"Do": func(r request) result {
		b, ok := rewrite.Do(r.O, r.B)
		return result{B: b, OK: ok}
	},
	"Trim": func(r request) result { return result{B: rewrite.Trim(r.C, r.B), OK: true} },
	"Machine": func(r request) result {
		m, err := rewrite.Machine(r.O)
		return result{M: m, Err: err}
	},
}

// requests returns requests of many kinds, most of which are valid.
func requests() []request {
	var l []request
	r := numbers()
	add := func(o api.Op) {
		for _, w := range []string{"", "a", "aab", "%41%", "abba%4aabab", "  x  ", "\x00\xff\x00", word(r, "ab%", 12)} {
			l = append(l, request{copyOf(o), class.Of([]byte(" ax\x00")), []byte(w)})
		}
	}
	for _, o := range samples() {
		add(o)
	}
	for _, o := range invalid() {
		add(o)
	}
	for range 100 {
		add(op(r.IntN(12)-1, word(r, "ab", 9), word(r, "ab", 6)))
	}
	return l
}

func copyOf(o api.Op) api.Op {
	return api.Op{Kind: o.Kind, Old: bytes.Clone(o.Old), New: bytes.Clone(o.New)}
}

// copied returns a copy of r whose slices have spare capacity, so that appending to them would show in the argument.
func copied(r request) request {
	roomy := func(b []byte) []byte { return append(make([]byte, 0, len(b)+20), b...) }
	return request{api.Op{Kind: r.O.Kind, Old: roomy(r.O.Old), New: roomy(r.O.New)}, r.C, roomy(r.B)}
}

// all returns the bytes of a slice and those behind it.
func all(b []byte) []byte { return b[:cap(b)] }

func same(x, y request) bool {
	return x.O.Kind == y.O.Kind && bytes.Equal(all(x.O.Old), all(y.O.Old)) && bytes.Equal(all(x.O.New), all(y.O.New)) && x.C == y.C && bytes.Equal(all(x.B), all(y.B))
}

// equal compares results; nil and empty slices are the same.
func equal(x, y result) bool {
	row := func(l, k []api.Move) bool {
		return slices.EqualFunc(l, k, func(m, n api.Move) bool { return m.To == n.To && slices.Equal(m.Out, n.Out) })
	}
	return bytes.Equal(x.B, y.B) && x.OK == y.OK && x.Err == y.Err && slices.Equal(x.M.Classes, y.M.Classes) &&
		slices.EqualFunc(x.M.Moves, y.M.Moves, row) && slices.Equal(x.M.Final, y.M.Final) && slices.EqualFunc(x.M.Ends, y.M.Ends, bytes.Equal)
}

// P1: no function panics, whatever its arguments are; P2: without a value there is no other result.
func TestNoPanic(t *testing.T) {
	for what, call := range calls {
		for _, r := range append(requests(), request{}) {
			x := call(r)
			if x.Err != api.OK && !equal(x, result{Err: x.Err}) || !x.OK && len(x.B) > 0 {
				t.Fatalf("%s of %v: %v", what, r, x)
			}
		}
	}
}

// P2: arguments are not changed, nor what is behind them.
func TestArguments(t *testing.T) {
	for what, call := range calls {
		for _, r := range requests() {
			given := copied(r)
			call(given)
			if !same(given, copied(r)) {
				t.Fatalf("%s changes its arguments %v to %v", what, r, given)
			}
		}
	}
}

// P2: equal arguments have equal results, also if results of calls between are overwritten.
func TestEqualResults(t *testing.T) {
	for what, call := range calls {
		l := requests()
		var before []result
		for _, r := range l {
			before = append(before, call(r))
			spoil(reflect.ValueOf(call(r)))
		}
		for i, r := range l {
			if x := call(copied(r)); !equal(x, before[i]) {
				t.Fatalf("%s of %v: %v and %v", what, r, before[i], x)
			}
		}
	}
}

// spoil overwrites the memory of all slices of a value.
func spoil(v reflect.Value) {
	switch v.Kind() {
	case reflect.Struct:
		for i := range v.NumField() {
			spoil(v.Field(i))
		}
	case reflect.Slice:
		v = v.Slice(0, v.Cap())
		for i := range v.Len() {
			spoil(v.Index(i))
			v.Index(i).SetZero()
		}
	}
}

// regions returns the memory of all slices of a value, as the addresses of its first byte and of the one behind it.
func regions(v reflect.Value) [][2]uintptr {
	var l [][2]uintptr
	switch v.Kind() {
	case reflect.Struct:
		for i := range v.NumField() {
			l = append(l, regions(v.Field(i))...)
		}
	case reflect.Slice:
		if v.Cap() > 0 {
			l = append(l, [2]uintptr{v.Pointer(), v.Pointer() + uintptr(v.Cap())*v.Type().Elem().Size()})
		}
		for i := range v.Len() {
			l = append(l, regions(v.Index(i))...)
		}
	}
	return l
}

// P2: results are new memory: they share none with arguments, with each other or with other results.
func TestNewMemory(t *testing.T) {
	for what, call := range calls {
		for _, r := range requests() {
			r = copied(r)
			x, y := call(r), call(r)
			l := regions(reflect.ValueOf(x))
			l = append(l, regions(reflect.ValueOf(y))...)
			l = append(l, regions(reflect.ValueOf(r))...)
			slices.SortFunc(l, func(a, b [2]uintptr) int { return slices.Compare(a[:], b[:]) })
			for i := range l[1:] {
				if l[i][1] > l[i+1][0] {
					t.Fatalf("%s of %v: two slices share memory", what, r)
				}
			}
		}
	}
}

// P2: nil and empty slices are the same argument.
func TestNilSlices(t *testing.T) {
	for what, call := range calls {
		for kind := range 10 {
			for _, old := range []string{"", "a"} {
				x := call(request{O: op(kind, old, ""), B: []byte{}})
				y := call(request{O: api.Op{Kind: kind, Old: []byte(old)}})
				z := call(request{O: api.Op{Kind: kind, Old: []byte(old), New: []byte{}}})
				if !equal(x, y) || !equal(x, z) {
					t.Errorf("%s of kind %d and %q: %v, %v and %v", what, kind, old, x, y, z)
				}
			}
		}
	}
}
