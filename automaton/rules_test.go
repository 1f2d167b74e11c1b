package automaton_test

import (
	"bytes"
	"slices"
	"testing"

	"univocal/api"
	"univocal/automaton"
)

// A result is what a call returns, as far as it is not used by the function.
type result struct {
	d   api.DFA
	w   []byte
	err api.Errno
	ok  bool
}

// calls are the functions of the package.
var calls = map[string]func(a, b api.DFA, w []byte) result{
	"Valid": func(a, _ api.DFA, _ []byte) result { return result{ok: automaton.Valid(a)} },
	"Accepts": func(a, _ api.DFA, w []byte) result {
		return result{ok: automaton.Accepts(a, w)}
	},
	"Canon":  func(a, _ api.DFA, _ []byte) result { return built(automaton.Canon(a)) },
	"Word":   func(_, _ api.DFA, w []byte) result { return built(automaton.Word(w)) },
	"And":    func(a, b api.DFA, _ []byte) result { return built(automaton.And(a, b)) },
	"Or":     func(a, b api.DFA, _ []byte) result { return built(automaton.Or(a, b)) },
	"Minus":  func(a, b api.DFA, _ []byte) result { return built(automaton.Minus(a, b)) },
	"Not":    func(a, _ api.DFA, _ []byte) result { return built(automaton.Not(a)) },
	"Concat": func(a, b api.DFA, _ []byte) result { return built(automaton.Concat(a, b)) },
	"Star":   func(a, _ api.DFA, _ []byte) result { return built(automaton.Star(a)) },
	"Least":  func(a, _ api.DFA, _ []byte) result { return found(automaton.Least(a)) },
	"Apart":  func(a, b api.DFA, _ []byte) result { return found(automaton.Apart(a, b)) },
}

func built(d api.DFA, err api.Errno) result { return result{d: d, err: err} }

func found(w []byte, ok bool) result { return result{w: w, ok: ok} }

func equal(x, y result) bool {
	return same(x.d, y.d) && bytes.Equal(x.w, y.w) && x.err == y.err && x.ok == y.ok
}

// P1: no function panics, whatever its arguments are.
func TestNoPanic(t *testing.T) {
	s := sequence()
	l := []api.DFA{{}, ab(), wide(64)}
	for _, d := range invalid() {
		l = append(l, d)
	}
	for range 300 {
		d := s.automaton(1+s.next(4), 1+s.next(3))
		switch k := s.next(len(d.Next)); s.next(6) {
		case 0:
			d.Next[k][0] = s.next(9) - 4
		case 1:
			d.Next[k] = d.Next[k][1:]
		case 2:
			d.Classes[0] = api.Class{uint64(s.next(1 << 20)), 0, uint64(s.next(9))}
		case 3:
			d.Accept = d.Accept[k:]
		case 4:
			d.Classes = d.Classes[1:]
		}
		l = append(l, d)
	}
	for what, call := range calls {
		for _, a := range l {
			r := call(a, l[s.next(len(l))], []byte{byte(s.next(256))})
			if r.err != api.OK && !zero(r.d) || !r.ok && len(r.w) != 0 {
				t.Fatalf("%s of %v: %v", what, a, r)
			}
		}
	}
}

// P2: arguments are not changed.
func TestArguments(t *testing.T) {
	l := append(small(20), invalid()["a long row"])
	w := []byte("aba")
	for what, call := range calls {
		for i, a := range l {
			b := l[len(l)-1-i]
			c, d := clone(a), clone(b)
			call(a, b, w)
			if !same(a, c) || !same(b, d) || string(w) != "aba" {
				t.Fatalf("%s changes its arguments %v and %v", what, c, d)
			}
		}
	}
}

// spoil overwrites all memory that a result can reach, one slice after the other, and checks that the others stay.
func spoil(t *testing.T, what string, d api.DFA) {
	t.Helper()
	for i := range d.Next {
		before := clone(d)
		row := d.Next[i][:cap(d.Next[i])]
		for k := range row {
			row[k] = -1
		}
		for j := range d.Next {
			if j != i && !slices.Equal(d.Next[j], before.Next[j]) {
				t.Fatalf("%s: the rows %d and %d share memory", what, i, j)
			}
		}
	}
	for _, l := range [][]api.Class{d.Classes[:cap(d.Classes)]} {
		clear(l)
	}
	accept := d.Accept[:cap(d.Accept)]
	for i := range accept {
		accept[i] = !accept[i]
	}
}

// P2: results are new memory and share none with arguments or with each other.
func TestNewMemory(t *testing.T) {
	w := []byte("aba")
	for what, call := range calls {
		for _, a := range append(small(20), canon(t, cycle(all, 64, 3))) {
			b := ab()
			c := clone(a)
			first, second := call(a, b, w), call(a, b, w)
			kept := clone(second.d)
			word := bytes.Clone(second.w)
			spoil(t, what, first.d)
			clear(first.w[:cap(first.w)])
			if !same(a, c) || !same(b, ab()) || string(w) != "aba" {
				t.Fatalf("%s: the result shares memory with an argument", what)
			}
			if !same(second.d, kept) || !bytes.Equal(second.w, word) {
				t.Fatalf("%s: the results of two calls share memory", what)
			}
		}
	}
}

// P2: equal arguments have equal results, also if calls come between.
func TestEqualResults(t *testing.T) {
	l := small(20)
	for what, call := range calls {
		var before []result
		for i, a := range l {
			before = append(before, call(a, l[len(l)-1-i], []byte("ab")))
		}
		for i, a := range l {
			if r := call(clone(a), clone(l[len(l)-1-i]), []byte("ab")); !equal(r, before[i]) {
				t.Fatalf("%s of %v: %v and %v", what, a, before[i], r)
			}
		}
	}
}

// P2: nil and empty slices are the same argument.
func TestNilSlices(t *testing.T) {
	d := api.DFA{Classes: []api.Class{}, Next: [][]int{}, Accept: []bool{}}
	for what, call := range calls {
		if x, y := call(d, d, []byte{}), call(api.DFA{}, api.DFA{}, nil); !equal(x, y) {
			t.Errorf("%s: %v and %v", what, x, y)
		}
	}
}
