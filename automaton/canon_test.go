package automaton_test

import (
	"slices"
	"testing"

	"univocal/api"
	"univocal/automaton"
)

// canon returns the canonical automaton of a valid one.
func canon(t *testing.T, d api.DFA) api.DFA {
	t.Helper()
	c, err := automaton.Canon(d)
	return valid(t, "Canon", c, err)
}

// P3.1, C2: Canon returns the automaton that the definition describes, with at most as many states.
func TestCanon(t *testing.T) {
	for _, d := range append(samples(200), ab(), wide(1), wide(2), wide(7)) {
		c, err := automaton.Canon(d)
		check(t, "Canon", c, err, unfold(d))
		if len(c.Next) > len(d.Next) {
			t.Fatalf("%v has more states than %v", c, d)
		}
	}
}

// P3.1, C2: an automaton that is not valid has no canonical one.
func TestCanonInvalid(t *testing.T) {
	for what, d := range invalid() {
		if c, err := automaton.Canon(d); err != api.ErrArg || !zero(c) {
			t.Errorf("%s: %v, %v", what, c, err)
		}
	}
}

// The automata of the chapter's examples.
var (
	none  = api.DFA{Classes: []api.Class{all}, Next: [][]int{{0}}, Accept: []bool{false}}
	every = api.DFA{Classes: []api.Class{all}, Next: [][]int{{0}}, Accept: []bool{true}}
	// epsilon is the automaton of the empty word.
	epsilon = api.DFA{Classes: []api.Class{all}, Next: [][]int{{1}, {1}}, Accept: []bool{true, false}}
)

// P3.1, C2: the chapter's examples, from other automata of the same languages.
func TestCanonExamples(t *testing.T) {
	s := sequence()
	for range 50 {
		for _, want := range []api.DFA{ab(), none, every, epsilon} {
			for n := len(want.Next); n < 12; n++ {
				d := s.blown(want, n)
				if c, err := automaton.Canon(d); err != api.OK || !same(c, want) {
					t.Fatalf("%v: got %v, %v, want %v", d, c, err, want)
				}
			}
		}
	}
}

// cycle returns an automaton of n states that counts the bytes of a class, and accepts the number k modulo n.
func cycle(c api.Class, n, k int) api.DFA {
	var d api.DFA
	rest := all
	for i := range rest {
		rest[i] &^= c[i]
	}
	if rest != (api.Class{}) {
		d.Classes = append(d.Classes, rest)
	}
	d.Classes = append(d.Classes, c)
	for q := range n {
		row := []int{q, (q + 1) % n}
		d.Next = append(d.Next, row[2-len(d.Classes):])
		d.Accept = append(d.Accept, q == k)
	}
	return d
}

// P3.1, P3.3, C2: automata of the greatest size, minimal ones and others, have canonical automata.
func TestCanonGreatest(t *testing.T) {
	for _, d := range []api.DFA{cycle(all, 64, 63), cycle(all, 64, 0), cycle(classOf("x"), 64, 31), cycle(classOf("\x00"), 64, 63), wide(64)} {
		c, err := automaton.Canon(d)
		check(t, "Canon", c, err, unfold(d))
	}
	if c := canon(t, cycle(all, 64, 5)); len(c.Next) != 64 || len(c.Classes) != 1 {
		t.Errorf("a cycle of 64 states became %v", c)
	}
	halves := cycle(all, 64, 5)
	halves.Accept[37] = true
	if c := canon(t, halves); len(c.Next) != 32 {
		t.Errorf("a cycle of 64 states with period 32 became %v", c)
	}
	d := wide(64)
	for q, row := range d.Next {
		for k := range row {
			row[k] = (q*7 + k*k) % 64
		}
		d.Accept[q] = q%5 == 1
	}
	c, err := automaton.Canon(d)
	check(t, "Canon", c, err, unfold(d))
}

// P3.1, C2: 256 classes that are needed stay, in the order of their bytes.
func TestCanonAllClasses(t *testing.T) {
	d := wide(18)
	d.Accept[17] = true
	for k := range 256 {
		d.Next[0][k], d.Next[1][k] = 1+k/16, 1+k%16
		for q := 2; q < 18; q++ {
			d.Next[q][k] = min(q+1, 17)
		}
	}
	c, err := automaton.Canon(d)
	check(t, "Canon", c, err, unfold(d))
	for b, cell := range c.Classes {
		if cell != classOf(string([]byte{byte(b)})) {
			t.Fatalf("class %d is %v", b, cell)
		}
	}
	if len(c.Classes) != 256 {
		t.Errorf("%d classes", len(c.Classes))
	}
}

// P3.2: Canon keeps the language.
func TestCanonLanguage(t *testing.T) {
	for _, d := range samples(120) {
		c := canon(t, d)
		for _, w := range words(alphabet(d), 4) {
			if automaton.Accepts(c, []byte(w)) != automaton.Accepts(d, []byte(w)) {
				t.Fatalf("%v and %v differ in %q", c, d, w)
			}
		}
		if w, ok := automaton.Apart(c, d); ok {
			t.Fatalf("%v and %v differ in %q", c, d, w)
		}
	}
}

// P3.2: automata with the same language have the same canonical automaton, and Apart finds no difference.
func TestCanonEqual(t *testing.T) {
	s := sequence()
	for _, d := range samples(150) {
		e := s.blown(d, len(d.Next)+s.next(20))
		if w, ok := automaton.Apart(d, e); ok || len(w) != 0 {
			t.Fatalf("%v and %v differ in %q", d, e, w)
		}
		if c, f := canon(t, d), canon(t, e); !same(c, f) {
			t.Fatalf("%v and %v have the canonical automata %v and %v", d, e, c, f)
		}
	}
}

// P3.2: automata have the same canonical automaton if and only if Apart finds no difference.
func TestCanonApart(t *testing.T) {
	var equal, different int
	s := sequence()
	var l []api.DFA
	for range 60 {
		l = append(l, s.automaton(1+s.next(3), 3))
	}
	for i, a := range l {
		for _, b := range l[:i] {
			w, apart := automaton.Apart(a, b)
			if apart == same(canon(t, a), canon(t, b)) {
				t.Fatalf("%v and %v: %q, %v", a, b, w, apart)
			}
			if apart {
				different++
			} else {
				equal++
			}
		}
	}
	if equal < 10 || different < 10 {
		t.Errorf("%d pairs are equal, %d are different", equal, different)
	}
}

// minimal fails unless an automaton has the properties that P3.3 names.
func minimal(t *testing.T, c api.DFA) {
	t.Helper()
	u := unfold(c)
	apart := u.apart()
	for p := range c.Next {
		for q := range p {
			if !apart[p][q] {
				t.Fatalf("no word tells %d and %d of %v apart", p, q, c)
			}
		}
	}
	for k := range c.Classes {
		for i := range k {
			if !slices.ContainsFunc(c.Next, func(row []int) bool { return row[i] != row[k] }) {
				t.Fatalf("no state tells the classes %d and %d of %v apart", i, k, c)
			}
		}
	}
	if len(u.reached()) != len(c.Next) {
		t.Fatalf("not every state of %v is reached", c)
	}
	if again := canon(t, c); !same(again, c) {
		t.Fatalf("Canon of %v is %v", c, again)
	}
}

// P3.3: canonical automata are minimal, and Canon changes nothing.
func TestMinimal(t *testing.T) {
	for _, d := range append(samples(120), ab(), wide(64), cycle(all, 64, 1)) {
		minimal(t, canon(t, d))
	}
}
