package language_test

import (
	"slices"
	"testing"

	"univocal/api"
	"univocal/automaton"
	"univocal/language"
)

func quotient(t *testing.T, d api.DFA, w string) api.DFA {
	t.Helper()
	q, err := language.Quotient(d, []byte(w))
	return valid(t, "Quotient by "+w, q, err)
}

func prefixes(t *testing.T, d api.DFA) api.DFA {
	t.Helper()
	p, err := language.Prefixes(d)
	return valid(t, "Prefixes", p, err)
}

func reversed(t *testing.T, d api.DFA) api.DFA {
	t.Helper()
	r, err := language.Reverse(d)
	return valid(t, "Reverse", r, err)
}

// P4.1, D2: Quotient returns the canonical automaton of the words that lead on from where the prefix leads.
func TestQuotient(t *testing.T) {
	for _, d := range samples(t, 60, 7) {
		next := func(q, b int) int { return target(d, q, b) }
		for _, w := range append(words("ab\xff", 2), "abcab", "\x00\xff\x00", "ababababab") {
			check(t, "Quotient by "+w, quotient(t, d, w), after(d, w), next, func(q int) bool { return d.Accept[q] })
		}
	}
}

// P4.1, D2: examples, a prefix that is longer than every word, and one that is longer than an automaton has states.
func TestQuotientExamples(t *testing.T) {
	for _, c := range [][3]string{
		{"ab|abc", "ab", "()|c"}, {"ab|abc", "", "ab|abc"}, {"ab|abc", "a", "b|bc"}, {"ab|abc", "abc", "()"},
		{"ab|abc", "b", "!"}, {"ab|abc", "abcd", "!"}, {".*", "xyz", ".*"}, {"!", "", "!"}, {"()", "", "()"},
		{"(aab)*", "aaba", "ab(aab)*"}, {`[^\x00]\xff.`, "\x01\xff", "."},
	} {
		if d := quotient(t, built(t, c[0]), c[1]); !same(d, built(t, c[2])) {
			t.Errorf("%s by %q: %v", c[0], c[1], d)
		}
	}
	w := ""
	for range 1000 {
		w += "ab"
	}
	if d := quotient(t, built(t, "(ab)*c"), w); !same(d, built(t, "(ab)*c")) {
		t.Errorf("by 2000 bytes: %v", d)
	}
	if d := quotient(t, built(t, "(ab)*c"), w+"c"); !same(d, built(t, "()")) {
		t.Errorf("by 2001 bytes: %v", d)
	}
}

// P4.4: the quotient by u v is that by v of that by u, and the quotient by the empty word has the same language.
func TestQuotientLaws(t *testing.T) {
	for _, d := range samples(t, 60, 7) {
		if q := quotient(t, d, ""); !same(q, canon(t, d)) {
			t.Fatalf("%v by the empty word: %v", d, q)
		}
		for _, u := range words("ab\x00", 2) {
			first := quotient(t, d, u)
			for _, v := range words("ab\xff", 2) {
				if x, y := quotient(t, first, v), quotient(t, d, u+v); !same(x, y) {
					t.Fatalf("%v by %q and then %q: %v, and at once: %v", d, u, v, x, y)
				}
			}
		}
	}
}

// live reports whether a word leads from q to an accepting state.
func live(d api.DFA, q int) bool {
	l := []int{q}
	for i := 0; i < len(l); i++ {
		for _, to := range d.Next[l[i]] {
			if !slices.Contains(l, to) {
				l = append(l, to)
			}
		}
	}
	return slices.ContainsFunc(l, func(q int) bool { return d.Accept[q] })
}

// P4.1, D3: Prefixes returns the canonical automaton of the words that can be continued to a word of the language.
func TestPrefixes(t *testing.T) {
	for _, d := range samples(t, 150, 9) {
		next := func(q, b int) int { return target(d, q, b) }
		check(t, "Prefixes", prefixes(t, d), 0, next, func(q int) bool { return live(d, q) })
	}
}

// P4.1, D3: examples.
func TestPrefixesExamples(t *testing.T) {
	for _, c := range [][2]string{
		{"ab|abc", "()|a|ab|abc"}, {"!", "!"}, {"()", "()"}, {".*", ".*"}, {".*a", ".*"}, {"a*b", "a*b?"},
		{"abcdefgh", "(a(b(c(d(e(f(gh?)?)?)?)?)?)?)?"}, {"(ab)*", "(ab)*a?"}, {"[^a]b&c.", "(cb?)?"}, {"a!|b", "b?"},
	} {
		if d := prefixes(t, built(t, c[0])); !same(d, built(t, c[1])) {
			t.Errorf("%s: %v", c[0], d)
		}
	}
	long, _ := automaton.Word(make([]byte, 62))
	d := prefixes(t, long)
	for n := range 64 {
		if automaton.Accepts(d, make([]byte, n)) != (n <= 62) {
			t.Errorf("%d of 62 bytes are wrong", n)
		}
	}
}

// P4.5: the prefixes of the prefixes are the prefixes; a word is a prefix if and only if its quotient is not empty.
func TestPrefixLaws(t *testing.T) {
	none := built(t, "!")
	for _, d := range samples(t, 60, 6) {
		p := prefixes(t, d)
		if again := prefixes(t, p); !same(p, again) {
			t.Fatalf("%v has the prefixes %v, and they have %v", d, p, again)
		}
		for _, w := range words("ab\xff", 3) {
			if automaton.Accepts(p, []byte(w)) == same(quotient(t, d, w), none) {
				t.Fatalf("%v: %q is wrong", d, w)
			}
		}
	}
}

// A past is a set of the states of an automaton that accept what was read from right to left.
type past [api.MaxStates]bool

// P4.1, D4: Reverse returns the canonical automaton of the reversed words.
func TestReverse(t *testing.T) {
	for _, d := range samples(t, 150, 7) {
		var start past
		copy(start[:], d.Accept)
		next := func(p past, b int) past {
			var from past
			for q := range d.Next {
				from[q] = p[target(d, q, b)]
			}
			return from
		}
		r, err := language.Reverse(d)
		if err == api.ErrBig {
			continue
		}
		check(t, "Reverse", valid(t, "Reverse", r, err), start, next, func(p past) bool { return p[0] })
	}
}

// P4.1, D4: examples, and reversals with exactly as many states as possible and with more.
func TestReverseExamples(t *testing.T) {
	for _, c := range [][2]string{
		{"ab|abc", "ba|cba"}, {"!", "!"}, {"()", "()"}, {".*", ".*"}, {"a", "a"}, {".*ab", "ba.*"}, {"a*b", "ba*"},
		{"(abc)*", "(cba)*"}, {"~(ab)", "~(ba)"}, {`\x00[^a]\xff`, `\xff[^a]\x00`},
		{".{5,5}a.*", ".*a.{5,5}"}, {".*a.{5,5}", ".{5,5}a.*"}, {"[ab]{4,4}a[ab]*", "[ab]*a[ab]{4,4}"},
	} {
		if d := reversed(t, built(t, c[0])); !same(d, built(t, c[1])) {
			t.Errorf("%s: %v", c[0], d)
		}
	}
	w := make([]byte, 62)
	for i := range w {
		w[i] = byte(i)
	}
	d, _ := automaton.Word(w)
	slices.Reverse(w)
	if e, _ := automaton.Word(w); !same(reversed(t, d), e) {
		t.Error("62 bytes are wrong")
	}
	if n := len(reversed(t, built(t, ".{5,5}a.*")).Next); n != 64 {
		t.Errorf("%d states, want 64", n)
	}
	// 65 sets, 128 sets, 4096 sets, 4097 sets, and more than could be built.
	for _, text := range []string{
		"[ab]{5,5}a[ab]*", ".{6,6}a.*", ".{11,11}a.*", "[ab]{11,11}a[ab]*", ".{12,12}a.*", ".{16,16}.{16,16}.{8,8}a.*",
	} {
		d, err := language.Reverse(built(t, text))
		tooBig(t, text, d, err)
	}
}

// P4.1, D4: the construction starts from the canonical automaton, so that states that are not reached make no sets.
func TestReverseOfUnreached(t *testing.T) {
	for _, text := range []string{".{6,6}a.*", ".{16,16}.{16,16}.{8,8}a.*"} {
		hidden := api.DFA{Classes: built(t, text).Classes, Next: [][]int{{0, 0}}, Accept: []bool{true}}
		d := built(t, text)
		for q, row := range d.Next {
			hidden.Next = append(hidden.Next, []int{row[0] + 1, row[1] + 1})
			hidden.Accept = append(hidden.Accept, d.Accept[q])
		}
		if r := reversed(t, hidden); !same(r, built(t, ".*")) {
			t.Errorf("all words beside %s: %v", text, r)
		}
	}
}

// P4.6: reversing twice restores the language; the reversal of a concatenation is the concatenation of the reversals in the
// opposite order.
func TestReverseLaws(t *testing.T) {
	s := sequence()
	l := samples(t, 80, 4)
	for _, a := range l {
		if d := reversed(t, reversed(t, a)); !same(d, canon(t, a)) {
			t.Fatalf("%v twice: %v", a, d)
		}
		b := l[s.next(len(l))]
		joined, err := automaton.Concat(a, b)
		if err != api.OK {
			continue
		}
		r, err := language.Reverse(joined)
		want, fails := automaton.Concat(reversed(t, b), reversed(t, a))
		if err == api.OK && fails == api.OK && !same(r, want) {
			t.Fatalf("%v and %v: %v, want %v", a, b, r, want)
		}
	}
}

// P4.6: a word is in the reversal if and only if it is in the language from right to left.
func TestReverseWords(t *testing.T) {
	for _, d := range samples(t, 60, 5) {
		r := reversed(t, d)
		for _, w := range words("ab\x00\xff", 4) {
			back := []byte(w)
			slices.Reverse(back)
			if automaton.Accepts(d, []byte(w)) != automaton.Accepts(r, back) {
				t.Fatalf("%v: %q is wrong", d, w)
			}
		}
	}
}

// P4.1, D2 to D4: automata that are not valid.
func TestDeriveErrors(t *testing.T) {
	for i, d := range invalid() {
		for _, w := range []string{"", "a"} {
			if e, err := language.Quotient(d, []byte(w)); err != api.ErrArg || !zero(e) {
				t.Errorf("Quotient of %d by %q: %v, %v", i, w, e, err)
			}
		}
		if e, err := language.Prefixes(d); err != api.ErrArg || !zero(e) {
			t.Errorf("Prefixes of %d: %v, %v", i, e, err)
		}
		if e, err := language.Reverse(d); err != api.ErrArg || !zero(e) {
			t.Errorf("Reverse of %d: %v, %v", i, e, err)
		}
	}
}
