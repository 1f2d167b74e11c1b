package language_test

import (
	"bytes"
	"slices"
	"testing"

	"univocal/api"
	"univocal/automaton"
	"univocal/language"
	"univocal/regex"
)

// numbers is a fixed sequence of numbers.
type numbers uint64

func (s *numbers) next(n int) int {
	x := uint64(*s)
	x ^= x << 13
	x ^= x >> 7
	x ^= x << 17
	*s = numbers(x)
	return int(x >> 33 % uint64(n))
}

func sequence() *numbers {
	s := numbers(88172645463325252)
	return &s
}

func has(c api.Class, b int) bool { return c[b/64]&(1<<uint(b%64)) != 0 }

// classOf builds the class of the bytes of a string from its definition.
func classOf(s string) api.Class {
	var c api.Class
	for i := range len(s) {
		c[s[i]/64] |= 1 << (s[i] % 64)
	}
	return c
}

// besides returns the class of the bytes that are not in s.
func besides(s string) api.Class {
	c := classOf(s)
	for i := range c {
		c[i] = ^c[i]
	}
	return c
}

var allBytes = besides("")

// parsed returns the expression of a text that has to be right.
func parsed(t *testing.T, s string) api.Regex {
	t.Helper()
	x, _, err := regex.Parse(s)
	if err != api.OK {
		t.Fatalf("Parse(%q): %v", s, err)
	}
	return x
}

// valid fails unless an operation has a result.
func valid(t *testing.T, what string, d api.DFA, err api.Errno) api.DFA {
	t.Helper()
	if err != api.OK || !automaton.Valid(d) {
		t.Fatalf("%s: %v, %v", what, d, err)
	}
	return d
}

// built returns the automaton of the text of an expression, which has to have one.
func built(t *testing.T, s string) api.DFA {
	t.Helper()
	d, err := language.Build(parsed(t, s))
	return valid(t, "Build of "+s, d, err)
}

// canon returns the canonical automaton of the language of d.
func canon(t *testing.T, d api.DFA) api.DFA {
	t.Helper()
	c, err := automaton.Canon(d)
	return valid(t, "Canon", c, err)
}

// same reports whether two automata are the same value.
func same(a, b api.DFA) bool {
	return slices.Equal(a.Classes, b.Classes) && slices.EqualFunc(a.Next, b.Next, slices.Equal) && slices.Equal(a.Accept, b.Accept)
}

func sameWords(a, b [][]byte) bool { return slices.EqualFunc(a, b, bytes.Equal) }

func clone(d api.DFA) api.DFA {
	c := api.DFA{Classes: slices.Clone(d.Classes), Accept: slices.Clone(d.Accept)}
	for _, row := range d.Next {
		c.Next = append(c.Next, slices.Clone(row))
	}
	return c
}

// zero reports whether an automaton is the zero value.
func zero(d api.DFA) bool { return len(d.Classes) == 0 && len(d.Next) == 0 && len(d.Accept) == 0 }

// tooBig fails unless an operation returns ErrBig and nothing else.
func tooBig(t *testing.T, what string, d api.DFA, err api.Errno) {
	t.Helper()
	if err != api.ErrBig || !zero(d) {
		t.Fatalf("%s: %v, %v, want ErrBig", what, d, err)
	}
}

// target returns the state to which d leads from q by a byte.
func target(d api.DFA, q, b int) int {
	return d.Next[q][slices.IndexFunc(d.Classes, func(c api.Class) bool { return has(c, b) })]
}

// after returns the state to which d leads by a word.
func after(d api.DFA, w string) int {
	q := 0
	for i := range len(w) {
		q = target(d, q, int(w[i]))
	}
	return q
}

// check fails unless d is the canonical automaton of the language of the machine that starts in start, where next leads
// from a state by a byte: it follows both byte by byte.
func check[S comparable](t *testing.T, what string, d api.DFA, start S, next func(s S, b int) S, accept func(s S) bool) {
	t.Helper()
	if !automaton.Valid(d) || !same(d, canon(t, d)) {
		t.Fatalf("%s: %v is not canonical", what, d)
	}
	type pair struct {
		q int
		s S
	}
	first := pair{0, start}
	l := []pair{first}
	seen := map[pair]bool{first: true}
	for i := 0; i < len(l); i++ {
		if d.Accept[l[i].q] != accept(l[i].s) {
			t.Fatalf("%s: %v has another language: state %d and %v", what, d, l[i].q, l[i].s)
		}
		for b := range 256 {
			to := pair{target(d, l[i].q, b), next(l[i].s, b)}
			if !seen[to] {
				seen[to] = true
				l = append(l, to)
			}
		}
	}
}

// classes returns a partition of all bytes into k classes: single bytes in some order, and one class of all others.
func (s *numbers) classes(k int) []api.Class {
	letters := []string{"ab", "ba", "a\x00", "\xffb", "cab", "b\x00\xff"}[s.next(6)]
	letters = letters[:min(k-1, len(letters))]
	l := []api.Class{besides(letters)}
	for i := range len(letters) {
		l = append(l, classOf(letters[i:i+1]))
	}
	i := s.next(len(l))
	l[0], l[i] = l[i], l[0]
	return l
}

// automaton returns an automaton with n states and up to k classes, which need not be canonical.
func (s *numbers) automaton(n, k int) api.DFA {
	d := api.DFA{Classes: s.classes(k)}
	rare := 1 + s.next(4)
	for range n {
		var row []int
		for range d.Classes {
			row = append(row, s.next(n))
		}
		d.Next = append(d.Next, row)
		d.Accept = append(d.Accept, s.next(rare) == 0)
	}
	return d
}

// samples returns n automata of at most the given number of states, among them those of simple languages.
func samples(t *testing.T, n, states int) []api.DFA {
	t.Helper()
	s := sequence()
	var l []api.DFA
	for _, text := range []string{"!", "()", ".*", ".", "ab|abc", "a*b", `\x00\xff`, "~a", "(a|b)*a.b"} {
		l = append(l, built(t, text))
	}
	for i := range n {
		l = append(l, s.automaton(1+i%states, 1+s.next(4)))
	}
	return l
}

// invalid returns automata that are not valid.
func invalid() []api.DFA {
	even := func() api.DFA {
		return api.DFA{Classes: []api.Class{besides("a"), classOf("a")}, Next: [][]int{{0, 1}, {1, 0}}, Accept: []bool{true, false}}
	}
	l := []api.DFA{{}, even(), even(), even(), even(), even(), even(), even()}
	l[1].Next[1][0] = 2
	l[2].Next[0][1] = -1
	l[3].Next[1] = []int{1}
	l[4].Accept = []bool{true}
	l[5].Classes[0] = allBytes
	l[6].Classes = l[6].Classes[:1]
	for range 63 {
		l[7].Next = append(l[7].Next, []int{0, 0})
		l[7].Accept = append(l[7].Accept, true)
	}
	return l
}

// words returns all words over the alphabet of at most n bytes, in shortlex order if the alphabet is in increasing order.
func words(alphabet string, n int) []string {
	l := []string{""}
	for from := 0; n > 0; n-- {
		to := len(l)
		for ; from < to; from++ {
			for i := range len(alphabet) {
				l = append(l, l[from]+alphabet[i:i+1])
			}
		}
	}
	return l
}
