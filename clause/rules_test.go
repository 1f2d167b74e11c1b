package clause_test

import (
	"reflect"
	"slices"
	"testing"

	"univocal/api"
	"univocal/clause"
)

// A request is the arguments of a call, as far as the function uses them.
type request struct {
	F, P [][]int
	N    int
	L    []int
	M    []bool
}

// A result is what a call returns, as far as it is not used by the function.
type result struct {
	M   []bool
	L   []int
	P   [][]int
	OK  bool
	Err api.Errno
}

// calls are the functions of the package.
var calls = map[string]func(r request) result{
	"Valid": func(r request) result { return result{OK: clause.Valid(r.F, r.N)} },
	"Holds": func(r request) result { return result{OK: clause.Holds(r.F, r.M)} },
	"Propagate": func(r request) result {
		l, ok := clause.Propagate(r.F, r.L)
		return result{L: l, OK: ok}
	},
	"Solve": func(r request) result {
		m, p, ok, err := clause.Solve(r.F, r.N)
		return result{M: m, P: p, OK: ok, Err: err}
	},
	"Check": func(r request) result { return result{OK: clause.Check(r.F, r.N, r.P)} },
	"Core": func(r request) result {
		l, ok, err := clause.Core(r.F, r.N)
		return result{L: l, OK: ok, Err: err}
	},
}

// requests returns requests of many kinds, most of which are valid.
func requests() []request {
	good := request{F: clauses("(1 2) (1 -2) (-1 2) (-1 -2)"), P: clauses("(1) ()"), N: 2, L: lits("-1"), M: values("TF")}
	l := []request{good, {}, {F: [][]int{nil}, P: [][]int{nil}}, {N: 16, M: make([]bool, 16)}}
	for _, x := range invalid() {
		l = append(l, request{x.f, good.P, x.n, good.L, good.M}, request{x.f, good.P, 16, nil, make([]bool, 16)}, request{good.F, x.f, good.N, good.L, good.M}, request{good.F, append(x.f, nil), good.N, good.L, good.M})
	}
	for _, e := range extremes {
		l = append(l, request{good.F, [][]int{{e}, {}}, e, []int{e}, nil}, request{[][]int{{e}}, good.P, 16, []int{1, e}, values("F")})
	}
	for k, x := range slices.Concat(samples(17, 60, 6), samples(18, 30, 16), hard()[:9]) {
		r := random(uint64(k))
		_, p, _, _ := clause.Solve(x.f, x.n)
		l = append(l, request{x.f, p, x.n, plain(r, 16, k%4), make([]bool, x.n)}, request{x.f, p, x.n - 1, plain(r, 16, 16), slices.Repeat([]bool{true}, x.n)})
	}
	return l
}

// spare returns a copy of a slice with spare capacity, so that appending to it would show in the arguments.
func spare[T any](l []T) []T { return append(make([]T, 0, len(l)+3), l...) }

// copied returns a copy of r whose slices have spare capacity.
func copied(r request) request {
	c := request{spare(r.F), spare(r.P), r.N, spare(r.L), spare(r.M)}
	for _, f := range [][][]int{c.F, c.P} {
		for i := range f {
			f[i] = spare(f[i])
		}
	}
	return c
}

// whole returns a request with the memory behind its slices.
func whole(r request) request {
	w := request{slices.Clone(r.F[:cap(r.F)]), slices.Clone(r.P[:cap(r.P)]), r.N, slices.Clone(r.L[:cap(r.L)]), slices.Clone(r.M[:cap(r.M)])}
	for _, f := range [][][]int{w.F, w.P} {
		for i, c := range f {
			f[i] = slices.Clone(c[:cap(c)])
		}
	}
	return w
}

// equal compares results; nil and empty slices are the same.
func equal(x, y result) bool {
	return slices.Equal(x.M, y.M) && slices.Equal(x.L, y.L) && same(x.P, y.P) && x.OK == y.OK && x.Err == y.Err
}

// P1: no function panics, whatever its arguments are; P2: without a value there is no other result.
func TestNoPanic(t *testing.T) {
	for what, call := range calls {
		for _, r := range requests() {
			x := call(r)
			if x.Err != api.OK && !equal(x, result{Err: x.Err}) || !x.OK && !equal(x, result{Err: x.Err, P: x.P}) || x.OK && len(x.P) > 0 {
				t.Fatalf("%s of %v: %v", what, r, x)
			}
		}
	}
}

// P2: arguments are not changed, nor what is behind them.
func TestArguments(t *testing.T) {
	for what, call := range calls {
		for _, r := range requests() {
			given, want := copied(r), whole(copied(r))
			call(given)
			if !reflect.DeepEqual(whole(given), want) {
				t.Fatalf("%s changes its arguments %v to %v", what, r, given)
			}
		}
	}
}

// lists returns all slices of literals of a result with the memory behind them.
func (x result) lists() [][]int {
	l := [][]int{x.L[:cap(x.L)]}
	for _, c := range x.P {
		l = append(l, c[:cap(c)])
	}
	return l
}

// overwrite changes everything that the slices of a result contain.
func overwrite(x result) {
	for _, l := range x.lists() {
		for i := range l {
			l[i] = 77
		}
	}
	for i := range x.M {
		x.M[i] = !x.M[i]
	}
	clear(x.P[:cap(x.P)])
}

// P2: equal arguments have equal results, also if results of calls between are overwritten.
func TestEqualResults(t *testing.T) {
	for what, call := range calls {
		l := requests()
		var before []result
		for _, r := range l {
			before = append(before, call(r))
			overwrite(call(r))
		}
		for i, r := range l {
			if x := call(copied(r)); !equal(x, before[i]) {
				t.Fatalf("%s of %v: %v and %v", what, r, before[i], x)
			}
		}
	}
}

// P2: results are new memory: what is written into one slice of a result shows in no other one, and not in the arguments.
func TestNewMemory(t *testing.T) {
	for what, call := range calls {
		for _, r := range requests() {
			r = copied(r)
			before := whole(r)
			lists := call(r).lists()
			for i, l := range lists {
				for j := range l {
					l[j] = 100 + i
				}
			}
			for i, l := range lists {
				if slices.ContainsFunc(l, func(x int) bool { return x != 100+i }) {
					t.Fatalf("%s of %v: two slices share memory", what, r)
				}
			}
			overwrite(call(r))
			if !reflect.DeepEqual(whole(r), before) {
				t.Fatalf("%s of %v: the result shares memory with the arguments", what, r)
			}
		}
	}
}

// P2: nil and empty slices are the same arguments.
func TestNilSlices(t *testing.T) {
	for what, call := range calls {
		for _, r := range requests() {
			empty, none := copied(r), copied(r)
			none.F, none.P, none.L, none.M = slices.Concat(none.F), slices.Concat(none.P), slices.Concat(none.L), slices.Concat(none.M)
			for _, f := range [][][]int{none.F, none.P} {
				for i := range f {
					f[i] = slices.Concat(f[i])
				}
			}
			if x, y := call(empty), call(none); !equal(x, y) {
				t.Errorf("%s of %v: %v and %v", what, r, x, y)
			}
		}
	}
}
