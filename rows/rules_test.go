package rows_test

import (
	"math"
	"reflect"
	"slices"
	"testing"

	"univocal/api"
	"univocal/rows"
)

// A request is the arguments of a call, as far as the function uses them.
type request struct {
	S api.System
	R api.Row
	P api.RowProof
	X []int
	N int
}

// A result is what a call returns, as far as it is not used by the function.
type result struct {
	X    []int
	P    api.RowProof
	A, B int
	OK   bool
	Err  api.Errno
}

// calls are the functions of the package.
var calls = map[string]func(r request) result{
	"Valid": func(r request) result { return result{OK: rows.Valid(r.S)} },
	"Holds": func(r request) result { return result{OK: rows.Holds(r.R, r.X)} },
	"Solve": func(r request) result {
		x, p, ok, err := rows.Solve(r.S)
		return result{X: x, P: p, OK: ok, Err: err}
	},
	"Check": func(r request) result { return result{OK: rows.Check(r.S, r.P)} },
	"Project": func(r request) result {
		a, b, ok := rows.Project(r.S, r.N)
		return result{A: a, B: b, OK: ok}
	},
}

// strange returns refutations, rows and points with numbers from everywhere.
func strange(s api.System) []request {
	var l []request
	size := len(s.Rows) + 2*len(s.Top)
	for _, x := range append(slices.Clone(extremes), -1, 0, 1, 2, 3, 1<<20, 1<<20+1) {
		steps := []api.RowStep{
			{Kind: x, Next: 1}, {Kind: api.RwSum, M: slices.Repeat([]int{x}, size), Next: 1}, {Kind: api.RwSum, M: slices.Repeat([]int{1}, size), Next: x},
			{Kind: api.RwCut, R: x, D: 2, Next: 1}, {Kind: api.RwCut, R: size - 1, D: x, Next: 1}, {Kind: api.RwCut, R: size, D: x, Next: x},
			{Kind: api.RwSplit, X: x, Next: 1, Else: 2}, {Kind: api.RwSplit, K: x, Next: 1, Else: 2}, {Kind: api.RwSplit, Next: x, Else: 2}, {Kind: api.RwSplit, Next: 1, Else: x},
		}
		for _, step := range steps {
			l = append(l, request{S: s, R: row(x, x, -1), P: api.RowProof{step, shut(), shut()}, X: []int{x, 1}, N: x})
		}
		l = append(l, request{S: s, R: row(x), P: api.RowProof{cut(1, size-1, 2), steps[3], steps[6], shut()}, X: nil, N: x})
	}
	return l
}

// requests returns requests of many kinds, most of which are valid.
func requests(t *testing.T) []request {
	var l []request
	systems, proofs := refuted(t, 60, 100)
	for i, s := range systems {
		l = append(l, request{S: s, R: row(i, i, -3), P: proofs[i], X: []int{1, i % 3}, N: i % 3})
	}
	for i, s := range samples(60, 100) {
		l = append(l, request{S: s, R: row(i-20, i, -3), P: proofs[i], X: []int{1, i % 3}, N: i % 3})
	}
	for _, s := range invalid() {
		l = append(l, request{S: s, R: row(0, s.Top...), P: proofs[0], X: s.Top, N: 0})
	}
	for _, s := range []api.System{{}, {Top: []int{3, 3}}, halved(), systems[0], system([]int{3, -1}, row(1, 2, 3), row(0), row(math.MinInt, math.MaxInt))} {
		l = append(l, strange(s)...)
	}
	return append(l, request{})
}

// copied returns a copy of r whose slices have spare capacity, so that appending to them would show in the arguments.
func copied(r request) request {
	spare := func(l []int) []int { return append(make([]int, 0, len(l)+3), l...) }
	all := func(l []api.Row) []api.Row {
		c := make([]api.Row, 0, len(l)+3)
		for _, x := range l {
			c = append(c, api.Row{A: spare(x.A), C: x.C})
		}
		return c
	}
	p := append(make(api.RowProof, 0, len(r.P)+3), r.P...)
	for i := range p {
		p[i].M = spare(p[i].M)
	}
	return request{api.System{Top: spare(r.S.Top), Rows: all(r.S.Rows)}, api.Row{A: spare(r.R.A), C: r.R.C}, p, spare(r.X), r.N}
}

// whole returns a request with the memory behind its slices.
func whole(r request) request {
	rest := func(l []int) []int { return slices.Clone(l[:cap(l)]) }
	w := request{R: api.Row{A: rest(r.R.A), C: r.R.C}, X: rest(r.X), N: r.N}
	w.S.Top = rest(r.S.Top)
	for _, x := range r.S.Rows[:cap(r.S.Rows)] {
		w.S.Rows = append(w.S.Rows, api.Row{A: rest(x.A), C: x.C})
	}
	for _, step := range r.P[:cap(r.P)] {
		step.M = rest(step.M)
		w.P = append(w.P, step)
	}
	return w
}

// equal compares results; nil and empty slices are the same.
func equal(x, y result) bool {
	return slices.Equal(x.X, y.X) && sameProof(x.P, y.P) && x.A == y.A && x.B == y.B && x.OK == y.OK && x.Err == y.Err
}

// P1: no function panics, whatever its arguments are; P2: without a value there is no other result.
func TestNoPanic(t *testing.T) {
	for what, call := range calls {
		for _, r := range requests(t) {
			x := call(r)
			if x.Err != api.OK && !equal(x, result{Err: x.Err}) || !x.OK && len(x.X)+x.A+x.B > 0 || x.OK && len(x.P) > 0 {
				t.Fatalf("%s of %v: %v", what, r, x)
			}
		}
	}
}

// P2: arguments are not changed, nor what is behind them.
func TestArguments(t *testing.T) {
	for what, call := range calls {
		for _, r := range requests(t) {
			given, want := copied(r), whole(copied(r))
			call(given)
			if !reflect.DeepEqual(whole(given), want) {
				t.Fatalf("%s changes its arguments %v to %v", what, r, given)
			}
		}
	}
}

// P2: equal arguments have equal results, also if results of calls between are overwritten.
func TestEqualResults(t *testing.T) {
	for what, call := range calls {
		l := requests(t)
		var before []result
		for _, r := range l {
			before = append(before, call(r))
			x := call(r)
			for i := range x.X {
				x.X[i]--
			}
			for _, n := range numbers(x.P) {
				*n--
			}
		}
		for i, r := range l {
			if x := call(copied(r)); !equal(x, before[i]) {
				t.Fatalf("%s of %v: %v and %v", what, r, before[i], x)
			}
		}
	}
}

// regions returns the memory of all slices of a value, as the addresses of its first byte and of the one behind it.
func regions(v reflect.Value) [][2]uintptr {
	var l [][2]uintptr
	switch v.Kind() {
	case reflect.Struct:
		for i := range v.NumField() {
			l = append(l, regions(v.Field(i))...)
		}
	case reflect.Slice:
		if v.Cap() > 0 {
			l = append(l, [2]uintptr{v.Pointer(), v.Pointer() + uintptr(v.Cap())*v.Type().Elem().Size()})
		}
		for i := range v.Len() {
			l = append(l, regions(v.Index(i))...)
		}
	}
	return l
}

// P2: results are new memory: they share none with arguments, with each other or with other results.
func TestNewMemory(t *testing.T) {
	for what, call := range calls {
		for _, r := range requests(t) {
			r = copied(r)
			x, y := call(r), call(r)
			l := regions(reflect.ValueOf(x))
			l = append(l, regions(reflect.ValueOf(y))...)
			l = append(l, regions(reflect.ValueOf(r))...)
			slices.SortFunc(l, func(a, b [2]uintptr) int { return slices.Compare(a[:], b[:]) })
			for i := range l[1:] {
				if l[i][1] > l[i+1][0] {
					t.Fatalf("%s of %v: two slices share memory", what, r)
				}
			}
		}
	}
}

// P2: nil and empty slices are the same arguments.
func TestNilSlices(t *testing.T) {
	none := api.System{Top: []int{}, Rows: []api.Row{}}
	some := system([]int{1}, row(-1, 0))
	without := api.System{Top: []int{1}, Rows: []api.Row{}}
	for what, call := range calls {
		for _, c := range [][2]request{
			{{}, {S: none, R: api.Row{A: []int{}}, P: api.RowProof{}, X: []int{}}},
			{{S: system([]int{1}), R: row(1)}, {S: without, R: api.Row{A: []int{}, C: 1}, P: api.RowProof{}, X: []int{}}},
			{{S: some, P: api.RowProof{sum(1, 1, 0, 0), shut()}}, {S: some, P: api.RowProof{sum(1, 1, 0, 0), {Kind: api.RwClose, M: []int{}}}}},
			{{S: some, P: api.RowProof{cut(1, 0, 2), shut()}}, {S: some, P: api.RowProof{{Kind: api.RwCut, M: []int{}, D: 2, Next: 1}, shut()}}},
			{{S: system([]int{1}, row(0))}, {S: system([]int{1}, api.Row{A: []int{}})}},
		} {
			if x, y := call(c[0]), call(c[1]); !equal(x, y) {
				t.Errorf("%s of %v: %v and %v", what, c, x, y)
			}
		}
	}
}
