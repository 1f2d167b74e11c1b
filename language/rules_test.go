package language_test

import (
	"bytes"
	"slices"
	"testing"

	"univocal/api"
	"univocal/language"
)

// A result is what a call returns, as far as it is not used by the function.
type result struct {
	d   api.DFA
	n   int
	l   [][]byte
	err api.Errno
}

// An input contains an argument of each type.
type input struct {
	x api.Regex
	d api.DFA
	w []byte
	n int
}

// calls are the functions of the package.
var calls = map[string]func(in input) result{
	"Build":    func(in input) result { return derived(language.Build(in.x)) },
	"Quotient": func(in input) result { return derived(language.Quotient(in.d, in.w)) },
	"Prefixes": func(in input) result { return derived(language.Prefixes(in.d)) },
	"Reverse":  func(in input) result { return derived(language.Reverse(in.d)) },
	"Count": func(in input) result {
		n, err := language.Count(in.d, in.n)
		return result{n: n, err: err}
	},
	"List": func(in input) result {
		l, err := language.List(in.d, in.n)
		return result{l: l, err: err}
	},
}

func derived(d api.DFA, err api.Errno) result { return result{d: d, err: err} }

func equal(x, y result) bool {
	return same(x.d, y.d) && x.n == y.n && sameWords(x.l, y.l) && x.err == y.err
}

func copied(in input) input {
	return input{slices.Clone(in.x), clone(in.d), bytes.Clone(in.w), in.n}
}

func sameInput(a, b input) bool {
	return slices.Equal(a.x, b.x) && same(a.d, b.d) && bytes.Equal(a.w, b.w) && a.n == b.n
}

func sameResult(r result) result {
	c := result{d: clone(r.d), n: r.n, err: r.err}
	for _, w := range r.l {
		c.l = append(c.l, bytes.Clone(w))
	}
	return c
}

// inputs returns arguments of many kinds, some of them not valid.
func inputs(t *testing.T) []input {
	t.Helper()
	s := sequence()
	texts := []string{"!", "()", "a", ".", "a(b|c)*", "~a&.*", "[ab]{2,5}", "(a|b){1,1}", "a{16,16}{5,5}", "(a)*", "a{0,0}"}
	list := []api.DFA{{}, built(t, "[ab]{0,4}"), built(t, "a{9,9}")}
	list = append(append(list, invalid()...), samples(t, 40, 5)...)
	var l []input
	for i, d := range list {
		x := parsed(t, texts[i%len(texts)])
		if i%5 == 4 {
			x[s.next(len(x))].Kind = s.next(12) - 2
		}
		if i%7 == 6 {
			x[len(x)-1].L = s.next(9) - 4
		}
		l = append(l, input{x, d, []byte("abaab")[:i%6], []int{0, 1, 2, 3, 4, 8, 9, 64, 65, -1}[s.next(10)]})
	}
	return l
}

// P1: no function panics, whatever its arguments are; P2: with an error there is no other result.
func TestNoPanic(t *testing.T) {
	s := sequence()
	l := inputs(t)
	for _, in := range l[:30] {
		d := s.automaton(1+s.next(4), 1+s.next(4))
		switch k := s.next(len(d.Next)); s.next(6) {
		case 0:
			d.Next[k][0] = s.next(9) - 4
		case 1:
			d.Next[k] = d.Next[k][1:]
		case 2:
			d.Classes[0] = api.Class{uint64(s.next(1 << 20)), 0, uint64(s.next(9))}
		case 3:
			d.Accept = d.Accept[k:]
		case 4:
			d.Classes = d.Classes[1:]
		}
		in.d = d
		l = append(l, in)
	}
	for what, call := range calls {
		for _, in := range l {
			r := call(in)
			if r.err != api.OK && !equal(r, result{err: r.err}) {
				t.Fatalf("%s of %v: %v", what, in, r)
			}
		}
	}
}

// P2: arguments are not changed.
func TestArguments(t *testing.T) {
	for what, call := range calls {
		for _, in := range inputs(t) {
			before := copied(in)
			call(in)
			if !sameInput(in, before) {
				t.Fatalf("%s changes its arguments %v to %v", what, before, in)
			}
		}
	}
}

// spoil overwrites all memory that a result can reach, one slice after the other, and checks that the others stay.
func spoil(t *testing.T, what string, r result) {
	t.Helper()
	for i := range r.d.Next {
		before := clone(r.d)
		row := r.d.Next[i][:cap(r.d.Next[i])]
		for k := range row {
			row[k] = -1
		}
		for j := range r.d.Next {
			if j != i && !slices.Equal(r.d.Next[j], before.Next[j]) {
				t.Fatalf("%s: the rows %d and %d share memory", what, i, j)
			}
		}
	}
	for i := range r.l {
		before := sameResult(r)
		w := r.l[i][:cap(r.l[i])]
		for k := range w {
			w[k]++
		}
		for j := range r.l {
			if j != i && !bytes.Equal(r.l[j], before.l[j]) {
				t.Fatalf("%s: the words %d and %d share memory", what, i, j)
			}
		}
	}
	clear(r.d.Classes[:cap(r.d.Classes)])
	accept := r.d.Accept[:cap(r.d.Accept)]
	for i := range accept {
		accept[i] = !accept[i]
	}
}

// P2: results are new memory and share none with arguments or with each other.
func TestNewMemory(t *testing.T) {
	for what, call := range calls {
		for _, in := range inputs(t) {
			if what == "List" && in.n > 2 {
				in.n = 1
			}
			before := copied(in)
			first, second := call(in), call(in)
			kept := sameResult(second)
			spoil(t, what, first)
			if !sameInput(in, before) {
				t.Fatalf("%s: the result shares memory with an argument", what)
			}
			if !equal(second, kept) {
				t.Fatalf("%s: the results of two calls share memory", what)
			}
		}
	}
}

// P2: equal arguments have equal results, also if calls come between.
func TestEqualResults(t *testing.T) {
	for what, call := range calls {
		var before []result
		for _, in := range inputs(t) {
			before = append(before, call(in))
		}
		for i, in := range inputs(t) {
			if r := call(in); !equal(r, before[i]) {
				t.Fatalf("%s of %v: %v and %v", what, in, before[i], r)
			}
		}
	}
}

// P2: nil and empty slices are the same argument.
func TestNilSlices(t *testing.T) {
	d := built(t, "[ab]{0,2}")
	for what, call := range calls {
		x := call(input{api.Regex{}, d, []byte{}, 2})
		y := call(input{nil, d, nil, 2})
		if !equal(x, y) {
			t.Errorf("%s: %v and %v", what, x, y)
		}
		x = call(input{api.Regex{}, api.DFA{Classes: []api.Class{}, Next: [][]int{}, Accept: []bool{}}, []byte{}, 2})
		if y = call(input{}); x.err != api.ErrArg || !equal(x, y) {
			t.Errorf("%s of nothing: %v and %v", what, x, y)
		}
	}
}
