package numeral_test

import (
	"bytes"
	"math"
	"reflect"
	"slices"
	"testing"

	"univocal/api"
	"univocal/numeral"
)

// A request is the arguments of a call, as far as the function uses them.
type request struct {
	R api.Rule
	B []byte
	N int
}

// A result is what a call returns, as far as it is not used by the function.
type result struct {
	B   []byte
	N   int
	D   api.DFA
	OK  bool
	Err api.Errno
}

// calls are the functions of the package.
var calls = map[string]func(r request) result{
	"Valid": func(r request) result { return result{Err: numeral.Valid(r.R)} },
	"Read": func(r request) result {
		n, ok := numeral.Read(r.R, r.B)
		return result{N: n, OK: ok}
	},
	"Write": func(r request) result {
		b, ok := numeral.Write(r.R, r.N)
		return result{B: b, OK: ok}
	},
	"Language": func(r request) result {
		d, err := numeral.Language(r.R)
		return result{D: d, Err: err}
	},
	"Texts": func(r request) result {
		d, err := numeral.Texts(r.R, r.N)
		return result{D: d, Err: err}
	},
}

// requests returns requests of many kinds, most of which are valid.
func requests() []request {
	var l []request
	words := inputs()
	r := random()
	add := func(rule api.Rule) {
		for _, n := range []int{0, 1, rule.Top, rule.Top + 1, -1, math.MinInt, math.MaxInt, r.IntN(60)} {
			l = append(l, request{rule, []byte(words[r.IntN(len(words))]), n})
		}
	}
	for _, rule := range rules(1, 9, 20, 50) {
		add(rule)
	}
	for _, rule := range invalid() {
		add(rule)
	}
	for range 100 {
		add(api.Rule{Base: []int{10, 16}[r.IntN(2)], Digits: r.IntN(9) - 1, Top: r.IntN(60) - 5, Over: r.IntN(6) - 1, Zeros: r.IntN(2) == 0})
	}
	return l
}

// copied returns a copy of r whose slice has spare capacity, so that appending to it would show in the argument.
func copied(r request) request {
	r.B = append(make([]byte, 0, len(r.B)+20), r.B...)
	return r
}

// equal compares results; nil and empty slices are the same.
func equal(x, y result) bool {
	return bytes.Equal(x.B, y.B) && x.N == y.N && same(x.D, y.D) && x.OK == y.OK && x.Err == y.Err
}

// P1: no function panics, whatever its arguments are; P2: without a value there is no other result.
func TestNoPanic(t *testing.T) {
	for what, call := range calls {
		for _, r := range append(requests(), request{}) {
			x := call(r)
			if x.Err != api.OK && !equal(x, result{Err: x.Err}) || !x.OK && len(x.B)+x.N > 0 {
				t.Fatalf("%s of %v: %v", what, r, x)
			}
		}
	}
}

// P2: arguments are not changed, nor what is behind them.
func TestArguments(t *testing.T) {
	for what, call := range calls {
		for _, r := range requests() {
			given := copied(r)
			call(given)
			if want := copied(r); given.R != want.R || given.N != want.N || !bytes.Equal(given.B[:cap(given.B)], want.B[:cap(want.B)]) {
				t.Fatalf("%s changes its arguments %v to %v", what, r, given)
			}
		}
	}
}

// P2: equal arguments have equal results, also if results of calls between are overwritten.
func TestEqualResults(t *testing.T) {
	for what, call := range calls {
		l := requests()
		var before []result
		for _, r := range l {
			before = append(before, call(r))
			spoil(reflect.ValueOf(call(r)))
		}
		for i, r := range l {
			if x := call(copied(r)); !equal(x, before[i]) {
				t.Fatalf("%s of %v: %v and %v", what, r, before[i], x)
			}
		}
	}
}

// spoil overwrites the memory of all slices of a value.
func spoil(v reflect.Value) {
	switch v.Kind() {
	case reflect.Struct:
		for i := range v.NumField() {
			spoil(v.Field(i))
		}
	case reflect.Slice:
		v = v.Slice(0, v.Cap())
		for i := range v.Len() {
			spoil(v.Index(i))
			v.Index(i).SetZero()
		}
	}
}

// regions returns the memory of all slices of a value, as the addresses of its first byte and of the one behind it.
func regions(v reflect.Value) [][2]uintptr {
	var l [][2]uintptr
	switch v.Kind() {
	case reflect.Struct:
		for i := range v.NumField() {
			l = append(l, regions(v.Field(i))...)
		}
	case reflect.Slice:
		if v.Cap() > 0 {
			l = append(l, [2]uintptr{v.Pointer(), v.Pointer() + uintptr(v.Cap())*v.Type().Elem().Size()})
		}
		for i := range v.Len() {
			l = append(l, regions(v.Index(i))...)
		}
	}
	return l
}

// P2: results are new memory: they share none with arguments, with each other or with other results.
func TestNewMemory(t *testing.T) {
	for what, call := range calls {
		for _, r := range requests() {
			r = copied(r)
			x, y := call(r), call(r)
			l := regions(reflect.ValueOf(x))
			l = append(l, regions(reflect.ValueOf(y))...)
			l = append(l, regions(reflect.ValueOf(r))...)
			slices.SortFunc(l, func(a, b [2]uintptr) int { return slices.Compare(a[:], b[:]) })
			for i := range l[1:] {
				if l[i][1] > l[i+1][0] {
					t.Fatalf("%s of %v: two slices share memory", what, r)
				}
			}
		}
	}
}

// P2: nil and empty slices are the same argument.
func TestNilSlices(t *testing.T) {
	for what, call := range calls {
		for _, r := range some() {
			x := call(request{R: r, B: []byte{}})
			if y := call(request{R: r}); !equal(x, y) {
				t.Errorf("%s of %v: %v and %v", what, r, x, y)
			}
		}
	}
}
