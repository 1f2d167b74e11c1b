package automaton_test

import (
	"testing"

	"univocal/api"
	"univocal/automaton"
)

type operation struct {
	what string
	do   func(a, b api.DFA) (api.DFA, api.Errno)
	of   func(x, y bool) bool
}

var operations = []operation{
	{"And", automaton.And, func(x, y bool) bool { return x && y }},
	{"Or", automaton.Or, func(x, y bool) bool { return x || y }},
	{"Minus", automaton.Minus, func(x, y bool) bool { return x && !y }},
	{"Not", func(a, _ api.DFA) (api.DFA, api.Errno) { return automaton.Not(a) }, func(x, _ bool) bool { return !x }},
}

// pairs calls f for pairs of samples.
func pairs(n int, f func(a, b api.DFA)) {
	l := samples(n)
	s := sequence()
	for _, a := range l {
		f(a, l[s.next(n)])
	}
	f(l[0], l[0])
	f(ab(), ab())
	f(none, every)
}

// P3.1, C4: the operations return the canonical automata of their results.
func TestOperations(t *testing.T) {
	for _, o := range operations {
		pairs(60, func(a, b api.DFA) {
			d, err := o.do(a, b)
			check(t, o.what, d, err, both(unfold(a), unfold(b), o.of))
		})
	}
}

// P3.4: a word is accepted by a result if this follows from its acceptance by the arguments.
func TestOperationWords(t *testing.T) {
	for _, o := range operations {
		pairs(60, func(a, b api.DFA) {
			d, err := o.do(a, b)
			valid(t, o.what, d, err)
			for _, w := range words(alphabet(a, b), 4) {
				x, y := automaton.Accepts(a, []byte(w)), automaton.Accepts(b, []byte(w))
				if automaton.Accepts(d, []byte(w)) != o.of(x, y) {
					t.Fatalf("%s of %v and %v is wrong for %q", o.what, a, b, w)
				}
			}
		})
	}
}

// P3.1, P3.3, C4: results are canonical, however the arguments are written.
func TestOperationsCanonical(t *testing.T) {
	s := sequence()
	for _, o := range operations {
		pairs(20, func(a, b api.DFA) {
			d, err := o.do(a, b)
			minimal(t, valid(t, o.what, d, err))
			e, err := o.do(s.blown(a, len(a.Next)+s.next(9)), s.blown(b, len(b.Next)+s.next(9)))
			if !same(d, valid(t, o.what, e, err)) {
				t.Fatalf("%s: %v and %v have other results if they are written in another way", o.what, a, b)
			}
		})
	}
}

// counters returns automata whose common words are told apart by m times n states.
func counters(m, n int) (api.DFA, api.DFA) {
	return cycle(classOf("a"), m, m-1), cycle(classOf("b"), n, n-1)
}

// P3.1, C4: 64 states are possible and 65 are too many; ErrBig does not depend on the size of the arguments.
func TestOperationsBig(t *testing.T) {
	for _, c := range []struct {
		m, n int
		err  api.Errno
	}{{8, 8, api.OK}, {4, 16, api.OK}, {32, 2, api.OK}, {7, 9, api.OK}, {5, 13, api.ErrBig}, {13, 5, api.ErrBig}, {8, 9, api.ErrBig}, {64, 2, api.ErrBig}, {64, 64, api.ErrBig}} {
		for _, o := range operations[:3] {
			a, b := counters(c.m, c.n)
			d, err := o.do(a, b)
			if states := len(d.Next); err != c.err || err == api.OK && states != c.m*c.n || err != api.OK && !zero(d) {
				t.Errorf("%s of counters modulo %d and %d: %d states, %v", o.what, c.m, c.n, states, err)
			}
		}
	}
}

// P3.1, C4: intermediate automata may be larger than the result.
func TestOperationsIntermediate(t *testing.T) {
	a, b := counters(64, 64)
	// No word ends in a state of this kind.
	a.Accept = make([]bool, 64)
	if d, err := automaton.And(a, b); err != api.OK || !same(d, none) {
		t.Errorf("And with no word: %v, %v", d, err)
	}
	if d, err := automaton.Minus(a, b); err != api.OK || !same(d, none) {
		t.Errorf("Minus from no word: %v, %v", d, err)
	}
	for q := range a.Accept {
		a.Accept[q] = true
	}
	if d, err := automaton.Or(b, a); err != api.OK || !same(d, every) {
		t.Errorf("Or with all words: %v, %v", d, err)
	}
	if d, err := automaton.And(b, a); err != api.OK || !same(d, canon(t, b)) {
		t.Errorf("And with all words: %v, %v", d, err)
	}
}

// P3.1, C4: the complement of an automaton with 64 states has 64 states.
func TestNotGreatest(t *testing.T) {
	d := cycle(classOf("q"), 64, 63)
	c, err := automaton.Not(d)
	if valid(t, "Not", c, err); len(c.Next) != 64 {
		t.Errorf("%d states", len(c.Next))
	}
	c, err = automaton.Not(c)
	if !same(valid(t, "Not", c, err), canon(t, d)) {
		t.Error("the complement of the complement is another language")
	}
}

// P3.1, C4: ErrArg comes before ErrBig, whichever argument is not valid.
func TestOperationsInvalid(t *testing.T) {
	big, _ := counters(64, 64)
	for what, d := range invalid() {
		for _, o := range operations {
			if c, err := o.do(d, big); err != api.ErrArg || !zero(c) {
				t.Errorf("%s, %s as the first argument: %v, %v", o.what, what, c, err)
			}
			if c, err := o.do(d, d); err != api.ErrArg || !zero(c) {
				t.Errorf("%s, %s as both arguments: %v, %v", o.what, what, c, err)
			}
		}
		for _, o := range operations[:3] {
			if c, err := o.do(big, d); err != api.ErrArg || !zero(c) {
				t.Errorf("%s, %s as the second argument: %v, %v", o.what, what, c, err)
			}
		}
	}
}

// P3.6: De Morgan's laws.
func TestDeMorgan(t *testing.T) {
	not := func(d api.DFA) api.DFA {
		c, err := automaton.Not(d)
		return valid(t, "Not", c, err)
	}
	pairs(80, func(a, b api.DFA) {
		or, err := automaton.Or(a, b)
		valid(t, "Or", or, err)
		and, err := automaton.And(a, b)
		valid(t, "And", and, err)
		x, err := automaton.And(not(a), not(b))
		if !same(valid(t, "And", x, err), not(or)) {
			t.Fatalf("neither %v nor %v: %v", a, b, x)
		}
		x, err = automaton.Or(not(a), not(b))
		if !same(valid(t, "Or", x, err), not(and)) {
			t.Fatalf("not both %v and %v: %v", a, b, x)
		}
		x, err = automaton.And(a, not(b))
		minus, e := automaton.Minus(a, b)
		if !same(valid(t, "And", x, err), valid(t, "Minus", minus, e)) {
			t.Fatalf("%v without %v: %v", a, b, x)
		}
	})
}
