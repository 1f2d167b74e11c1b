package equation_test

import (
	"reflect"
	"slices"
	"strings"
	"testing"

	"univocal/api"
	"univocal/equation"
)

// A request is the arguments of a call, as far as the function uses them.
type request struct {
	E api.Equation
	G []api.Equation
	W [][]byte
	S api.Scope
}

// A result is what a call returns, as far as it is not used by the function.
type result struct {
	E     api.Equation
	Steps []api.Step
	G     []api.Equation
	W     [][]byte
	OK    bool
	Err   api.Errno
}

// calls are the functions of the package.
var calls = map[string]func(r request) result{
	"Valid": func(r request) result { return result{OK: equation.Valid(r.E)} },
	"Holds": func(r request) result { return result{OK: equation.Holds(r.E, r.W)} },
	"Strip": func(r request) result {
		e, ok := equation.Strip(r.E)
		return result{E: e, OK: ok}
	},
	"Canon": func(r request) result { return result{E: equation.Canon(r.E), OK: equation.Valid(r.E)} },
	"Steps": func(r request) result { return result{Steps: equation.Steps(r.E), OK: equation.Valid(r.E)} },
	"Graph": func(r request) result {
		g, ok, err := equation.Graph(r.E)
		return result{G: g, OK: ok, Err: err}
	},
	"Check": func(r request) result { return result{OK: equation.Check(r.E, r.G)} },
	"Least": func(r request) result {
		w, ok, err := equation.Least(r.E, r.S)
		return result{W: w, OK: ok, Err: err}
	},
}

// strange returns requests of which one thing is not valid, and some that are as large as possible.
func strange() []request {
	var l []request
	good := request{eq("Xab=baX"), eqs("Xa=bX", "Xaa=abX"), words("b", "", "a"), inScope("ab", 3)}
	for _, e := range invalid() {
		l = append(l, request{e, good.G, good.W, good.S}, request{good.E, []api.Equation{e, good.E}, good.W, good.S}, request{E: e, W: slices.Repeat(words("a"), 20)})
	}
	for _, s := range scopes {
		l = append(l, request{good.E, good.G, nil, s}, request{eq("F="), []api.Equation{{}}, words(""), s})
	}
	for _, c := range limits {
		g, _, _ := equation.Graph(eq(c.e))
		l = append(l, request{eq(c.e), g, slices.Repeat(words("a", ""), 6), good.S})
	}
	for _, long := range []string{strings.Repeat("X", 24), strings.Repeat("aY", 12), strings.Repeat("XYZ", 8), strings.Repeat("a", 24)} {
		for _, other := range []string{"", "a", "Y", strings.Repeat("Z", 24), strings.Repeat("Yb", 12), long} {
			l = append(l, request{eq(long + "=" + other), eqs(long+"="+other, other+"="+long), words("abcd", "ef"), good.S})
		}
	}
	return append(l, good, request{}, request{S: inScope("abcd", 8)}, request{E: eq("F=F"), S: inScope("abcd", 8)}, request{E: eq("F=F"), S: inScope("b", 1)})
}

// requests returns requests of many kinds, most of which are valid.
func requests() []request {
	l := strange()
	some, graphs := refuted(9, 60)
	for k, e := range some {
		l = append(l, request{e, graphs[k], slices.Repeat(words("ab", "", "b"), 4), inScope("ab", k%3)})
	}
	for k, e := range samples(10, 200) {
		l = append(l, request{e, graphs[k%60], slices.Repeat(words("", "a"), k%7), inScope("abc", k%3)})
	}
	for k, e := range slices.Collect(small("aX", 2)) {
		l = append(l, request{e, eqs("Xa=bX"), words("", "a"), inScope("bc", k%5)})
	}
	return l
}

// spare returns a copy of a slice with spare capacity, so that appending to it would show in the arguments.
func spare[T any](l []T) []T { return append(make([]T, 0, len(l)+3), l...) }

// copied returns a copy of r whose slices have spare capacity.
func copied(r request) request {
	all := func(e api.Equation) api.Equation { return api.Equation{L: spare(e.L), R: spare(e.R)} }
	c := request{E: all(r.E), G: spare(r.G), W: spare(r.W), S: api.Scope{Alphabet: spare(r.S.Alphabet), Most: r.S.Most}}
	for i := range c.G {
		c.G[i] = all(c.G[i])
	}
	for i := range c.W {
		c.W[i] = spare(c.W[i])
	}
	return c
}

// whole returns a request with the memory behind its slices.
func whole(r request) request {
	all := func(e api.Equation) api.Equation {
		return api.Equation{L: slices.Clone(e.L[:cap(e.L)]), R: slices.Clone(e.R[:cap(e.R)])}
	}
	w := request{E: all(r.E), S: api.Scope{Alphabet: slices.Clone(r.S.Alphabet[:cap(r.S.Alphabet)]), Most: r.S.Most}}
	for _, e := range r.G[:cap(r.G)] {
		w.G = append(w.G, all(e))
	}
	for _, x := range r.W[:cap(r.W)] {
		w.W = append(w.W, slices.Clone(x[:cap(x)]))
	}
	return w
}

// equal compares results; nil and empty slices are the same.
func equal(x, y result) bool {
	return same(x.E, y.E) && sameSteps(x.Steps, y.Steps) && sameAll(x.G, y.G) && sameWords(x.W, y.W) && x.OK == y.OK && x.Err == y.Err
}

// P1: no function panics, whatever its arguments are; P2: without a value there is no other result.
func TestNoPanic(t *testing.T) {
	for what, call := range calls {
		for _, r := range requests() {
			x := call(r)
			if x.Err != api.OK && !equal(x, result{Err: x.Err}) || !x.OK && !equal(x, result{Err: x.Err, G: x.G}) {
				t.Fatalf("%s of %v: %v", what, r, x)
			}
		}
	}
}

// P2: arguments are not changed, nor what is behind them.
func TestArguments(t *testing.T) {
	for what, call := range calls {
		for _, r := range requests() {
			given, want := copied(r), whole(copied(r))
			call(given)
			if !reflect.DeepEqual(whole(given), want) {
				t.Fatalf("%s changes its arguments %v to %v", what, r, given)
			}
		}
	}
}

// overwrite changes everything that the slices of a result contain.
func overwrite(x result) {
	change := func(t []api.Item) {
		for i := range t {
			t[i] = api.Item{X: 77, B: 78}
		}
	}
	for _, s := range x.Steps {
		x.G = append(x.G, s.E)
		change(s.Out)
	}
	for _, e := range append(x.G, x.E) {
		change(e.L)
		change(e.R)
	}
	for _, w := range x.W {
		for i := range w {
			w[i] ^= 0xff
		}
	}
	clear(x.Steps)
	clear(x.G)
	clear(x.W)
}

// P2: equal arguments have equal results, also if results of calls between are overwritten.
func TestEqualResults(t *testing.T) {
	for what, call := range calls {
		l := requests()
		var before []result
		for _, r := range l {
			before = append(before, call(r))
			overwrite(call(r))
		}
		for i, r := range l {
			if x := call(copied(r)); !equal(x, before[i]) {
				t.Fatalf("%s of %v: %v and %v", what, r, before[i], x)
			}
		}
	}
}

// regions returns the memory of all slices of a value, as the addresses of its first byte and of the one behind it.
func regions(v reflect.Value) [][2]uintptr {
	var l [][2]uintptr
	switch v.Kind() {
	case reflect.Struct:
		for i := range v.NumField() {
			l = append(l, regions(v.Field(i))...)
		}
	case reflect.Slice:
		if v.Cap() > 0 {
			l = append(l, [2]uintptr{v.Pointer(), v.Pointer() + uintptr(v.Cap())*v.Type().Elem().Size()})
		}
		for i := range v.Len() {
			l = append(l, regions(v.Index(i))...)
		}
	}
	return l
}

// P2: results are new memory: they share none with arguments, with each other or with other results.
func TestNewMemory(t *testing.T) {
	for what, call := range calls {
		for _, r := range requests() {
			r = copied(r)
			x, y := call(r), call(r)
			l := regions(reflect.ValueOf(x))
			l = append(l, regions(reflect.ValueOf(y))...)
			l = append(l, regions(reflect.ValueOf(r))...)
			slices.SortFunc(l, func(a, b [2]uintptr) int { return slices.Compare(a[:], b[:]) })
			for i := range l[1:] {
				if l[i][1] > l[i+1][0] {
					t.Fatalf("%s of %v: two slices share memory", what, r)
				}
			}
		}
	}
}

// emptied returns a request in which all slices that are nil are empty instead.
func emptied(r request) request {
	r = copied(r)
	if len(r.W) == 0 {
		r.W = [][]byte{}
	}
	for i := range r.W {
		if len(r.W[i]) == 0 {
			r.W[i] = []byte{}
		}
	}
	return r
}

// without returns a request in which all empty slices are nil.
func without(r request) request {
	r = copied(r)
	none := func(e api.Equation) api.Equation {
		return api.Equation{L: slices.Concat(e.L), R: slices.Concat(e.R)}
	}
	r.E = none(r.E)
	for i := range r.G {
		r.G[i] = none(r.G[i])
	}
	for i := range r.W {
		r.W[i] = slices.Concat(r.W[i])
	}
	r.G, r.W, r.S.Alphabet = slices.Concat(r.G), slices.Concat(r.W), slices.Concat(r.S.Alphabet)
	return r
}

// P2: nil and empty slices are the same arguments.
func TestNilSlices(t *testing.T) {
	for what, call := range calls {
		for _, r := range requests() {
			if x, y := call(emptied(r)), call(without(r)); !equal(x, y) {
				t.Errorf("%s of %v: %v and %v", what, r, x, y)
			}
		}
	}
}
