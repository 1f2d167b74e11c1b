package pattern_test

import (
	"bytes"
	"slices"
	"testing"

	"univocal/api"
	"univocal/pattern"
)

// A result is what a call returns, as far as it is not used by the function.
type result struct {
	d     api.DFA
	spans []api.Span
	cases []api.Case
	err   api.Errno
	ok    bool
}

// calls are the functions of the package.
var calls = map[string]func(p api.Pattern, b []byte) result{
	"Valid": func(p api.Pattern, _ []byte) result { return result{err: pattern.Valid(p)} },
	"Match": func(p api.Pattern, b []byte) result {
		l, ok := pattern.Match(p, b)
		return result{spans: l, ok: ok}
	},
	"Language": func(p api.Pattern, _ []byte) result {
		d, err := pattern.Language(p)
		return result{d: d, err: err}
	},
	"Cases": func(p api.Pattern, _ []byte) result {
		l, err := pattern.Cases(p)
		return result{cases: l, err: err}
	},
}

// automata returns all automata of a result.
func (r result) automata() []api.DFA {
	l := []api.DFA{r.d}
	for _, c := range r.cases {
		l = append(append(l, c.Heads...), c.Rests...)
	}
	return l
}

func equal(x, y result) bool {
	return slices.EqualFunc(x.automata(), y.automata(), same) && len(x.cases) == len(y.cases) && slices.Equal(x.spans, y.spans) && x.err == y.err && x.ok == y.ok
}

// kept returns a copy of a result.
func kept(r result) result {
	c := result{d: clone(r.d), spans: slices.Clone(r.spans), err: r.err, ok: r.ok}
	copies := func(l []api.DFA) []api.DFA {
		var m []api.DFA
		for _, d := range l {
			m = append(m, clone(d))
		}
		return m
	}
	for _, x := range r.cases {
		c.cases = append(c.cases, api.Case{Heads: copies(x.Heads), Rests: copies(x.Rests)})
	}
	return c
}

func copied(p api.Pattern) api.Pattern {
	var c api.Pattern
	for _, x := range p {
		c = append(c, api.Part{R: slices.Clone(x.R), Lazy: x.Lazy})
	}
	return c
}

func samePattern(p, q api.Pattern) bool {
	return slices.EqualFunc(p, q, func(x, y api.Part) bool { return slices.Equal(x.R, y.R) && x.Lazy == y.Lazy })
}

// arguments returns patterns of many kinds, some of them not valid.
func arguments(t *testing.T) []api.Pattern {
	t.Helper()
	s := sequence()
	var l []api.Pattern
	for _, c := range failing(t) {
		l = append(l, c.p)
	}
	for _, texts := range append(patterns(60), unlimited...) {
		l = append(l, made(t, texts...))
	}
	for i := range 60 {
		p := made(t, ordinary[i%len(ordinary)]...)
		x := p[s.next(len(p))].R
		n := &x[s.next(len(x))]
		switch s.next(6) {
		case 0:
			n.Kind = s.next(12) - 2
		case 1:
			n.L = s.next(9) - 4
		case 2:
			n.R = s.next(9) - 4
		case 3:
			n.Min = s.next(40) - 20
		case 4:
			n.Max = s.next(40) - 20
		case 5:
			n.C = api.Class{uint64(s.next(1 << 20)), 0, uint64(s.next(9))}
		}
		l = append(l, p)
	}
	return l
}

// P1: no function panics, whatever its arguments are; P2: without a value there is no other result.
func TestNoPanic(t *testing.T) {
	for what, call := range calls {
		for _, p := range arguments(t) {
			for _, b := range []string{"", "ab", "aab\x00\xff"} {
				r := call(p, []byte(b))
				if r.err != api.OK && !equal(r, result{err: r.err}) || !r.ok && len(r.spans) != 0 {
					t.Fatalf("%s of %v: %v", what, p, r)
				}
			}
		}
	}
}

// P2: arguments are not changed.
func TestArguments(t *testing.T) {
	b := []byte("aab")
	for what, call := range calls {
		for _, p := range arguments(t) {
			before := copied(p)
			call(p, b)
			if !samePattern(p, before) || string(b) != "aab" {
				t.Fatalf("%s changes its arguments %v to %v", what, before, p)
			}
		}
	}
}

// spoil overwrites all memory that an automaton can reach.
func spoil(d api.DFA) {
	for _, row := range d.Next {
		row = row[:cap(row)]
		for i := range row {
			row[i] = -1
		}
	}
	clear(d.Next[:cap(d.Next)])
	clear(d.Classes[:cap(d.Classes)])
	accept := d.Accept[:cap(d.Accept)]
	for i := range accept {
		accept[i] = !accept[i]
	}
}

// P2: results are new memory and share none with arguments or with each other.
func TestNewMemory(t *testing.T) {
	b := []byte("aab")
	for what, call := range calls {
		for _, texts := range patterns(60) {
			p := made(t, texts...)
			first, second := call(p, b), call(p, b)
			before := kept(second)
			l := first.automata()
			values := kept(first).automata()
			for i := range l {
				spoil(l[i])
				for j := i + 1; j < len(l); j++ {
					if !same(l[j], values[j]) {
						t.Fatalf("%s of %q: the automata %d and %d share memory", what, texts, i, j)
					}
				}
			}
			for _, c := range first.cases {
				clear(c.Heads[:cap(c.Heads)])
				for _, d := range c.Rests {
					if len(d.Classes) == 0 {
						t.Fatalf("%s of %q: heads and rests share memory", what, texts)
					}
				}
				clear(c.Rests[:cap(c.Rests)])
			}
			clear(first.cases[:cap(first.cases)])
			clear(first.spans[:cap(first.spans)])
			if !samePattern(p, made(t, texts...)) || string(b) != "aab" {
				t.Fatalf("%s of %q: the result shares memory with an argument", what, texts)
			}
			if !equal(second, before) {
				t.Fatalf("%s of %q: the results of two calls share memory", what, texts)
			}
		}
	}
}

// P2: equal arguments have equal results, also if calls come between.
func TestEqualResults(t *testing.T) {
	l := arguments(t)
	b := []byte("aab")
	for what, call := range calls {
		var before []result
		for _, p := range l {
			before = append(before, call(p, b))
		}
		for i, p := range l {
			if r := call(copied(p), bytes.Clone(b)); !equal(r, before[i]) {
				t.Fatalf("%s of %v: %v and %v", what, p, before[i], r)
			}
		}
	}
}

// P2: nil and empty slices are the same argument.
func TestNilSlices(t *testing.T) {
	p := made(t, ":a*", ";b?")
	for what, call := range calls {
		if x, y := call(api.Pattern{}, []byte{}), call(nil, nil); !equal(x, y) {
			t.Errorf("%s of nothing: %v and %v", what, x, y)
		}
		if x, y := call(p, []byte{}), call(p, nil); !equal(x, y) {
			t.Errorf("%s without bytes: %v and %v", what, x, y)
		}
		x := call(api.Pattern{{R: api.Regex{}}}, nil)
		if y := call(api.Pattern{{}}, nil); !equal(x, y) {
			t.Errorf("%s of an empty expression: %v and %v", what, x, y)
		}
	}
}
