package automaton_test

import (
	"slices"
	"testing"

	"univocal/api"
	"univocal/automaton"
)

// joined returns the concatenation of two languages, which has to be possible.
func joined(t *testing.T, a, b api.DFA) api.DFA {
	t.Helper()
	d, err := automaton.Concat(a, b)
	return valid(t, "Concat", d, err)
}

func iterated(t *testing.T, a api.DFA) api.DFA {
	t.Helper()
	d, err := automaton.Star(a)
	return valid(t, "Star", d, err)
}

func either(t *testing.T, a, b api.DFA) api.DFA {
	t.Helper()
	d, err := automaton.Or(a, b)
	return valid(t, "Or", d, err)
}

// small returns automata of so few states that their concatenations stay small.
func small(n int) []api.DFA {
	s := sequence()
	l := []api.DFA{none, every, epsilon, ab()}
	for range n {
		l = append(l, s.automaton(1+s.next(4), 1+s.next(3)))
	}
	return l
}

// P3.1, C5: Concat returns the canonical automaton of the concatenation.
func TestConcat(t *testing.T) {
	s := sequence()
	l := small(80)
	for _, a := range l {
		for _, b := range []api.DFA{l[s.next(4)], l[s.next(len(l))], l[s.next(len(l))]} {
			d, err := automaton.Concat(a, b)
			check(t, "Concat", d, err, concat(unfold(a), unfold(b)))
		}
	}
}

// P3.1, C5: Star returns the canonical automaton of the iteration.
func TestStar(t *testing.T) {
	s := sequence()
	l := small(120)
	for range 40 {
		l = append(l, s.automaton(5, 2))
	}
	for _, a := range l {
		d, err := automaton.Star(a)
		check(t, "Star", d, err, star(unfold(a)))
	}
}

// P3.5: Concat accepts exactly the words that can be divided into a word of the first and a word of the second argument.
func TestConcatWords(t *testing.T) {
	s := sequence()
	l := small(40)
	for _, a := range l {
		b := l[s.next(len(l))]
		d := joined(t, a, b)
		for _, w := range words(alphabet(a, b), 4) {
			want := false
			for k := range len(w) + 1 {
				want = want || automaton.Accepts(a, []byte(w[:k])) && automaton.Accepts(b, []byte(w[k:]))
			}
			if automaton.Accepts(d, []byte(w)) != want {
				t.Fatalf("%v and %v: %q is wrong", a, b, w)
			}
		}
	}
}

// divided reports whether a word consists of words of d.
func divided(d api.DFA, w string) bool {
	if w == "" {
		return true
	}
	for k := 1; k <= len(w); k++ {
		if automaton.Accepts(d, []byte(w[:k])) && divided(d, w[k:]) {
			return true
		}
	}
	return false
}

// P3.5: Star accepts exactly the words that can be divided into words of its argument.
func TestStarWords(t *testing.T) {
	for _, a := range small(60) {
		d := iterated(t, a)
		for _, w := range words(alphabet(a), 5) {
			if automaton.Accepts(d, []byte(w)) != divided(a, w) {
				t.Fatalf("%v: %q is wrong", a, w)
			}
		}
	}
}

// P3.1, C5: the chapter's examples.
func TestConcatExamples(t *testing.T) {
	a := word(t, "a")
	if d := joined(t, a, word(t, "b")); !same(d, ab()) {
		t.Errorf("a and b: %v", d)
	}
	want := api.DFA{Classes: []api.Class{besides("a"), classOf("a")}, Next: [][]int{{1, 0}, {1, 1}}, Accept: []bool{true, false}}
	if d := iterated(t, a); !same(d, want) {
		t.Errorf("a, iterated: %v", d)
	}
	for _, d := range []api.DFA{none, epsilon} {
		if s := iterated(t, d); !same(s, epsilon) {
			t.Errorf("%v, iterated: %v", d, s)
		}
	}
	if d := iterated(t, every); !same(d, every) {
		t.Errorf("all words, iterated: %v", d)
	}
}

// P3.6: Concat is associative and distributes over Or, with the empty word as its unit and the empty language as its zero.
func TestConcatAlgebra(t *testing.T) {
	s := sequence()
	var l []api.DFA
	for range 12 {
		l = append(l, s.automaton(1+s.next(3), 1+s.next(3)))
	}
	l = append(l, none, every, epsilon, ab())
	for _, a := range l {
		b, c := l[s.next(len(l))], l[s.next(len(l))]
		if x, y := joined(t, joined(t, a, b), c), joined(t, a, joined(t, b, c)); !same(x, y) {
			t.Fatalf("%v, %v, %v: not associative: %v, %v", a, b, c, x, y)
		}
		if x, y := joined(t, a, either(t, b, c)), either(t, joined(t, a, b), joined(t, a, c)); !same(x, y) {
			t.Fatalf("%v, %v, %v: not distributive from the left: %v, %v", a, b, c, x, y)
		}
		if x, y := joined(t, either(t, a, b), c), either(t, joined(t, a, c), joined(t, b, c)); !same(x, y) {
			t.Fatalf("%v, %v, %v: not distributive from the right: %v, %v", a, b, c, x, y)
		}
		for _, x := range []api.DFA{joined(t, a, epsilon), joined(t, epsilon, a)} {
			if !same(x, canon(t, a)) {
				t.Fatalf("%v and the empty word: %v", a, x)
			}
		}
		if !same(joined(t, a, none), none) || !same(joined(t, none, a), none) {
			t.Fatalf("%v and no word: there is a word", a)
		}
	}
}

// P3.6: Star of Star is Star.
func TestStarAlgebra(t *testing.T) {
	for _, a := range small(60) {
		x := iterated(t, a)
		if y := iterated(t, x); !same(x, y) {
			t.Fatalf("%v: %v and %v", a, x, y)
		}
		if y := either(t, epsilon, joined(t, a, x)); !same(x, y) {
			t.Fatalf("%v: the empty word, or a word and more words: %v", a, y)
		}
	}
}

// P3.1, P3.3, C5: results are canonical, however the arguments are written.
func TestConcatCanonical(t *testing.T) {
	s := sequence()
	l := small(30)
	for _, a := range l {
		b := l[s.next(len(l))]
		c, d := s.blown(a, len(a.Next)+s.next(9)), s.blown(b, len(b.Next)+s.next(9))
		x, y := joined(t, a, b), iterated(t, a)
		minimal(t, x)
		minimal(t, y)
		if !same(x, joined(t, c, d)) || !same(y, iterated(t, c)) {
			t.Fatalf("%v and %v have other results if they are written in another way", a, b)
		}
	}
}

// P3.1, C5: ErrArg comes before ErrBig, whichever argument is not valid.
func TestConcatInvalid(t *testing.T) {
	big := register()
	for what, d := range invalid() {
		for _, l := range [][2]api.DFA{{d, big}, {big, d}, {d, d}} {
			if c, err := automaton.Concat(l[0], l[1]); err != api.ErrArg || !zero(c) {
				t.Errorf("Concat, %s: %v, %v", what, c, err)
			}
		}
		if c, err := automaton.Star(d); err != api.ErrArg || !zero(c) {
			t.Errorf("Star, %s: %v, %v", what, c, err)
		}
	}
}

// P3.1, C5: the result may have 64 states, but not more.
func TestConcatStates(t *testing.T) {
	w := string(slices.Repeat([]byte("xy"), 31))
	for k := range 63 {
		if d := joined(t, word(t, w[:k]), word(t, w[k:])); !same(d, word(t, w)) {
			t.Fatalf("the word is divided at %d: %v", k, d)
		}
		if d, err := automaton.Concat(word(t, w[:k]), word(t, w[:62])); k > 0 && (err != api.ErrBig || !zero(d)) {
			t.Fatalf("%d and 62 bytes: %v, %v", k, d, err)
		}
	}
	if d := iterated(t, word(t, w)); len(d.Next) != 63 {
		t.Errorf("62 bytes, iterated: %d states", len(d.Next))
	}
}

// chain returns an automaton of the words of at most most bytes, or of more bytes, for whose lengths accept returns true.
func chain(most int, accept func(n int) bool) api.DFA {
	d := api.DFA{Classes: []api.Class{all}}
	for n := range most + 2 {
		d.Next = append(d.Next, []int{min(n+1, most+1)})
		d.Accept = append(d.Accept, accept(n))
	}
	return d
}

// P3.1, C5: an iteration may have 64 states, but not 65.
func TestStarGreatest(t *testing.T) {
	// Of the lengths of the words, 62 is the greatest that is missing.
	d := iterated(t, chain(62, func(n int) bool { return n >= 32 && n != 62 }))
	if want := chain(62, func(n int) bool { return n == 0 || n >= 32 && n != 62 }); !same(d, want) {
		t.Errorf("64 states: %v", d)
	}
	// Here it is 63, because 4 times 16 is the first length from which on 5 and 17 make up all.
	if d, err := automaton.Star(chain(17, func(n int) bool { return n == 5 || n == 17 })); err != api.ErrBig || !zero(d) {
		t.Errorf("65 states: %v, %v", d, err)
	}
}

// P3.1, C5: iterations have 64 states or fewer, or ErrBig.
func TestStarStates(t *testing.T) {
	s := sequence()
	big, fit := 0, 0
	for range 600 {
		d := s.automaton(9+s.next(4), 2)
		if rounds(d) > 300 {
			continue
		}
		got, err := automaton.Star(d)
		check(t, "Star", got, err, star(unfold(d)))
		if err == api.ErrBig {
			big++
		} else if len(got.Next) > 32 {
			fit++
		}
	}
	if big < 5 || fit < 5 {
		t.Errorf("%d results have more than 64 states, %d have 33 to 64", big, fit)
	}
}

// register returns an automaton whose sets of states are those of a shift register of 12 bits: the byte x sets the first
// bit, every other byte clears it.
func register() api.DFA {
	d := api.DFA{Classes: []api.Class{besides("x"), classOf("x")}, Next: [][]int{{0, 1}}, Accept: []bool{true}}
	for q := 1; q <= 12; q++ {
		d.Next = append(d.Next, []int{(q + 1) % 13, (q + 1) % 13})
		d.Accept = append(d.Accept, false)
	}
	return d
}

// subsets counts the states of the subset construction of Concat as the chapter defines them.
func subsets(a, b api.DFA) int {
	enter := func(l []int) []int {
		if a.Accept[l[0]] && !slices.Contains(l[1:], 0) {
			l = append(l, 0)
		}
		slices.Sort(l[1:])
		return l
	}
	return count(enter([]int{0}), func(l []int, x int) []int {
		next := []int{unfold1(a, l[0], x)}
		for _, q := range l[1:] {
			if k := unfold1(b, q, x); !slices.Contains(next[1:], k) {
				next = append(next, k)
			}
		}
		return enter(next)
	})
}

// rounds counts the states of the subset construction of Star as the chapter defines them.
func rounds(a api.DFA) int {
	step := func(l []int, x int) []int {
		var next []int
		for _, q := range l {
			if k := unfold1(a, q, x); !slices.Contains(next, k) {
				next = append(next, k)
			}
		}
		if slices.ContainsFunc(next, func(q int) bool { return a.Accept[q] }) && !slices.Contains(next, 0) {
			next = append(next, 0)
		}
		slices.Sort(next)
		return next
	}
	// The first state is written as the number -1.
	return count([]int{-1}, func(l []int, x int) []int {
		if l[0] == -1 {
			return step([]int{0}, x)
		}
		return step(l, x)
	})
}

// unfold1 returns the target of a state by the byte x.
func unfold1(d api.DFA, q, x int) int {
	return d.Next[q][slices.IndexFunc(d.Classes, func(c api.Class) bool { return has(c, x) })]
}

// count returns the number of lists that are reached by the bytes x and y.
func count(start []int, step func(l []int, x int) []int) int {
	key := func(l []int) string {
		var b []byte
		for _, q := range l {
			b = append(b, byte(q))
		}
		return string(b)
	}
	seen := map[string]bool{key(start): true}
	for l := [][]int{start}; len(l) > 0; l = l[1:] {
		for _, x := range []int{'x', 'y'} {
			if next := step(l[0], x); !seen[key(next)] {
				seen[key(next)] = true
				l = append(l, next)
			}
		}
	}
	return len(seen)
}

// P3.1, C5: the subset construction of Concat may have 4096 states, but not more, however few the result has.
func TestConcatSubsets(t *testing.T) {
	r := register()
	some, err := automaton.Minus(every, epsilon)
	valid(t, "Minus", some, err)
	if subsets(every, r) != 4096 || subsets(some, r) != 4097 {
		t.Fatalf("%d, %d", subsets(every, r), subsets(some, r))
	}
	if d := joined(t, every, r); !same(d, every) {
		t.Errorf("4096 states: %v", d)
	}
	if d, err := automaton.Concat(some, r); err != api.ErrBig || !zero(d) {
		t.Errorf("4097 states: %v, %v", d, err)
	}
	// Only the states of the canonical automata count.
	s := sequence()
	if d := joined(t, s.blown(every, 5), s.blown(r, 64)); !same(d, every) {
		t.Errorf("4096 states of the canonical automata: %v", d)
	}
}

// P3.1, C5: the subset construction of Star may have 4096 states, but not more, however few the result has.
func TestStarSubsets(t *testing.T) {
	over := register()
	over.Accept[1] = true
	fits := clone(over)
	fits.Next[7][0], fits.Next[7][1] = 8, 4
	fits.Next[12][0], fits.Next[12][1] = 1, 0
	if rounds(fits) != 4096 || rounds(over) != 4097 {
		t.Fatalf("%d, %d", rounds(fits), rounds(over))
	}
	if d := iterated(t, fits); !same(d, every) {
		t.Errorf("4096 states: %v", d)
	}
	if d, err := automaton.Star(over); err != api.ErrBig || !zero(d) {
		t.Errorf("4097 states: %v, %v", d, err)
	}
	// Only the states of the canonical automaton count.
	s := sequence()
	if d := iterated(t, s.blown(fits, 64)); !same(d, every) {
		t.Errorf("4096 states of the canonical automaton: %v", d)
	}
}
