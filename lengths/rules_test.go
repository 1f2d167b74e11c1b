package lengths_test

import (
	"math"
	"slices"
	"testing"

	"univocal/api"
	"univocal/lengths"
)

// A result is what a call returns, as far as it is not used by the function.
type result struct {
	l   api.Lengths
	n   int
	is  bool
	err api.Errno
}

// An input contains an argument of each type.
type input struct {
	a, b api.Lengths
	d    api.DFA
	n    int
}

// calls are the functions of the package.
var calls = map[string]func(in input) result{
	"Valid": func(in input) result { return result{is: lengths.Valid(in.a)} },
	"Canon": func(in input) result { return made(lengths.Canon(in.a)) },
	"Of":    func(in input) result { return made(lengths.Of(in.d)) },
	"Has":   func(in input) result { return result{is: lengths.Has(in.a, in.n)} },
	"And":   func(in input) result { return made(lengths.And(in.a, in.b)) },
	"Or":    func(in input) result { return made(lengths.Or(in.a, in.b)) },
	"Sum":   func(in input) result { return made(lengths.Sum(in.a, in.b)) },
	"Least": func(in input) result { return result{n: lengths.Least(in.a, in.n)} },
}

func made(l api.Lengths, err api.Errno) result { return result{l: l, err: err} }

func equal(x, y result) bool {
	return same(x.l, y.l) && x.n == y.n && x.is == y.is && x.err == y.err
}

func copied(in input) input {
	d := api.DFA{Classes: slices.Clone(in.d.Classes), Accept: slices.Clone(in.d.Accept)}
	for _, row := range in.d.Next {
		d.Next = append(d.Next, slices.Clone(row))
	}
	return input{clone(in.a), clone(in.b), d, in.n}
}

func sameInput(x, y input) bool {
	return same(x.a, y.a) && same(x.b, y.b) && x.n == y.n && slices.Equal(x.d.Classes, y.d.Classes) &&
		slices.EqualFunc(x.d.Next, y.d.Next, slices.Equal) && slices.Equal(x.d.Accept, y.d.Accept)
}

// inputs returns arguments of many kinds, some of them not valid.
func inputs(t *testing.T) []input {
	t.Helper()
	s := sequence()
	sets := append(samples(40), invalid()...)
	list := append(machines(t, 30, 6), broken()...)
	var l []input
	for i, a := range sets {
		n := []int{0, 1, 2, 7, 511, 512, 1 << 40, 1<<40 + 1, -1, math.MaxInt, math.MinInt}[s.next(11)]
		l = append(l, input{clone(a), clone(sets[s.next(len(sets))]), list[i%len(list)], n})
	}
	return l
}

// P1: no function panics, whatever its arguments are; P2: with an error there is no other result, and results are canonical.
func TestNoPanic(t *testing.T) {
	for what, call := range calls {
		for _, in := range inputs(t) {
			for _, n := range []int{in.n, 0, math.MaxInt, math.MinInt} {
				in.n = n
				r := call(in)
				if r.err != api.OK && !equal(r, result{err: r.err}) {
					t.Fatalf("%s of %v: %v", what, in, r)
				}
				if r.err == api.OK && !zero(r.l) && !same(r.l, canon(t, r.l)) {
					t.Fatalf("%s of %v: %s is not canonical", what, in, text(r.l))
				}
			}
		}
	}
}

// P2: arguments are not changed.
func TestArguments(t *testing.T) {
	for what, call := range calls {
		for _, in := range inputs(t) {
			before := copied(in)
			call(in)
			if !sameInput(in, before) {
				t.Fatalf("%s changes its arguments %v to %v", what, before, in)
			}
		}
	}
}

// flip changes all memory behind a slice.
func flip(l []bool) {
	l = l[:cap(l)]
	for i := range l {
		l[i] = !l[i]
	}
}

// P2: results are new memory and share none with arguments or with each other.
func TestNewMemory(t *testing.T) {
	for what, call := range calls {
		for _, in := range inputs(t) {
			before := copied(in)
			first, second := call(in), call(in)
			kept := result{clone(second.l), second.n, second.is, second.err}
			cycle := slices.Clone(first.l.Cycle)
			flip(first.l.Head)
			if !slices.Equal(first.l.Cycle, cycle) {
				t.Fatalf("%s: head and cycle share memory", what)
			}
			head := slices.Clone(first.l.Head)
			flip(first.l.Cycle)
			if !slices.Equal(first.l.Head, head) {
				t.Fatalf("%s: cycle and head share memory", what)
			}
			if !sameInput(in, before) {
				t.Fatalf("%s: the result shares memory with an argument", what)
			}
			if !equal(second, kept) {
				t.Fatalf("%s: the results of two calls share memory", what)
			}
		}
	}
}

// P2: also the memory behind the ends of arguments stays as it is.
func TestMemoryBehind(t *testing.T) {
	for what, call := range calls {
		l := flags("1010110100")
		in := input{a: api.Lengths{Head: l[:2], Cycle: l[2:4]}, b: api.Lengths{Head: l[4:6], Cycle: l[6:8]}}
		call(in)
		if !slices.Equal(l, flags("1010110100")) {
			t.Errorf("%s changes the memory behind its arguments", what)
		}
	}
}

// P2: equal arguments have equal results, also if calls come between.
func TestEqualResults(t *testing.T) {
	for what, call := range calls {
		var before []result
		for _, in := range inputs(t) {
			before = append(before, call(in))
		}
		for i, in := range inputs(t) {
			if r := call(in); !equal(r, before[i]) {
				t.Fatalf("%s of %v: %v and %v", what, in, before[i], r)
			}
		}
	}
}

// P2: nil and empty slices are the same argument.
func TestNilSlices(t *testing.T) {
	d := built(t, "(aa)*")
	for what, call := range calls {
		x := call(input{api.Lengths{Head: []bool{}, Cycle: []bool{true, false}}, api.Lengths{Head: []bool{}, Cycle: []bool{true}}, d, 4})
		y := call(input{set("|10"), set("|1"), d, 4})
		if x.err != api.OK || !equal(x, y) {
			t.Errorf("%s: %v and %v", what, x, y)
		}
		none := api.Lengths{Head: []bool{}, Cycle: []bool{}}
		x = call(input{none, none, api.DFA{Classes: []api.Class{}, Next: [][]int{}, Accept: []bool{}}, 1})
		if y = call(input{n: 1}); !equal(x, y) {
			t.Errorf("%s of nothing: %v and %v", what, x, y)
		}
	}
}
