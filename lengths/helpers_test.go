package lengths_test

import (
	"slices"
	"strings"
	"testing"

	"univocal/api"
	"univocal/automaton"
	"univocal/language"
	"univocal/lengths"
	"univocal/regex"
)

// numbers is a fixed sequence of numbers.
type numbers uint64

func (s *numbers) next(n int) int {
	x := uint64(*s)
	x ^= x << 13
	x ^= x >> 7
	x ^= x << 17
	*s = numbers(x)
	return int(x >> 33 % uint64(n))
}

func sequence() *numbers {
	s := numbers(88172645463325252)
	return &s
}

// flags reads a text in which 1 is true and 0 is false.
func flags(s string) []bool {
	var l []bool
	for i := range len(s) {
		l = append(l, s[i] == '1')
	}
	return l
}

// set reads a set whose head and cycle are separated by a bar.
func set(s string) api.Lengths {
	head, cycle, _ := strings.Cut(s, "|")
	return api.Lengths{Head: flags(head), Cycle: flags(cycle)}
}

// text writes a set as set reads it.
func text(l api.Lengths) string {
	var s strings.Builder
	for i, is := range slices.Concat(l.Head, l.Cycle) {
		if i == len(l.Head) {
			s.WriteByte('|')
		}
		s.WriteByte("01"[count(is)])
	}
	return s.String()
}

func count(is bool) int {
	if is {
		return 1
	}
	return 0
}

// multiples returns the multiples of n that are at least from.
func multiples(n, from int) api.Lengths {
	cycle := make([]bool, n)
	cycle[(n-from%n)%n] = true
	return api.Lengths{Head: make([]bool, from), Cycle: cycle}
}

// shifted returns the set of the sums of by and a multiple of n.
func shifted(n, by int) api.Lengths {
	cycle := make([]bool, n)
	cycle[0] = true
	return api.Lengths{Head: make([]bool, by), Cycle: cycle}
}

// member follows the definition of membership.
func member(l api.Lengths, n int) bool {
	switch {
	case n < 0:
		return false
	case n < len(l.Head):
		return l.Head[n]
	}
	return l.Cycle[(n-len(l.Head))%len(l.Cycle)]
}

func same(a, b api.Lengths) bool {
	return slices.Equal(a.Head, b.Head) && slices.Equal(a.Cycle, b.Cycle)
}

func clone(l api.Lengths) api.Lengths {
	return api.Lengths{Head: slices.Clone(l.Head), Cycle: slices.Clone(l.Cycle)}
}

func zero(l api.Lengths) bool { return len(l.Head) == 0 && len(l.Cycle) == 0 }

// table returns the membership of the numbers below n.
func table(n int, is func(i int) bool) []bool {
	l := make([]bool, n)
	for i := range l {
		l[i] = is(i)
	}
	return l
}

// form returns the canonical form by its definition: the members are the indices of true elements of l, and from start on
// they repeat with some period, of which l contains two. The result may be larger than a valid set.
func form(l []bool, start int) api.Lengths {
	repeats := func(from, p int) bool { return slices.Equal(l[from:len(l)-p], l[from+p:]) }
	p := 1
	for !repeats(start, p) {
		p++
	}
	h := 0
	for !repeats(h, p) {
		h++
	}
	return api.Lengths{Head: l[:h], Cycle: l[h : h+p]}
}

// check fails unless an operation returns the canonical form of the set with the members in l, which repeat from start on
// with some period, of which l contains two; if the form is too large, it has to return ErrBig.
func check(t *testing.T, what string, got api.Lengths, err api.Errno, l []bool, start int) {
	t.Helper()
	want := form(l, start)
	if len(want.Head)+len(want.Cycle) > 512 {
		if err != api.ErrBig || !zero(got) {
			t.Fatalf("%s: %s, %v for a head of %d and a cycle of %d", what, text(got), err, len(want.Head), len(want.Cycle))
		}
		return
	}
	if err != api.OK || !same(got, want) {
		t.Fatalf("%s: got %s, %v, want %s", what, text(got), err, text(want))
	}
}

// ok fails unless an operation has a result.
func ok(t *testing.T, what string, l api.Lengths, err api.Errno) api.Lengths {
	t.Helper()
	if err != api.OK || !lengths.Valid(l) {
		t.Fatalf("%s: %s, %v", what, text(l), err)
	}
	return l
}

func canon(t *testing.T, l api.Lengths) api.Lengths {
	t.Helper()
	c, err := lengths.Canon(l)
	return ok(t, "Canon of "+text(l), c, err)
}

// all returns all valid sets of which head and cycle have at most n elements together.
func all(n int) []api.Lengths {
	var l []api.Lengths
	for size := 1; size <= n; size++ {
		for cycle := 1; cycle <= size; cycle++ {
			for bits := range 1 << size {
				of := table(size, func(i int) bool { return bits>>i&1 == 1 })
				l = append(l, api.Lengths{Head: slices.Clone(of[:size-cycle]), Cycle: slices.Clone(of[size-cycle:])})
			}
		}
	}
	return l
}

// some returns a set with a head of at most h and a cycle of 1 to c elements.
func (s *numbers) some(h, c int) api.Lengths {
	rare := 1 + s.next(6)
	is := func(int) bool { return s.next(rare) == 0 }
	return api.Lengths{Head: table(s.next(h+1), is), Cycle: table(1+s.next(c), is)}
}

// samples returns n sets of several sizes, among them the largest ones.
func samples(n int) []api.Lengths {
	s := sequence()
	l := []api.Lengths{set("|0"), set("|1"), set("1|0"), set("0|1"), set("|01"), set("1010|10"), shifted(500, 12), multiples(7, 505)}
	for i := range n {
		size := []int{3, 8, 20, 60}[i%4]
		l = append(l, s.some(size, size))
	}
	return l
}

// invalid returns sets that are not valid.
func invalid() []api.Lengths {
	return []api.Lengths{
		{},
		{Head: []bool{true}},
		{Head: make([]bool, 512)},
		{Cycle: make([]bool, 513)},
		{Head: make([]bool, 512), Cycle: []bool{true}},
		{Head: []bool{true}, Cycle: make([]bool, 512)},
		{Head: make([]bool, 300), Cycle: make([]bool, 213)},
	}
}

// built returns the automaton of the text of an expression.
func built(t *testing.T, s string) api.DFA {
	t.Helper()
	x, at, err := regex.Parse(s)
	if err != api.OK {
		t.Fatalf("Parse(%q): %v at %d", s, err, at)
	}
	d, err := language.Build(x)
	if err != api.OK || !automaton.Valid(d) {
		t.Fatalf("Build of %s: %v", s, err)
	}
	return d
}

// letters returns the class of the bytes of s, and the class of all other bytes.
func letters(s string) (api.Class, api.Class) {
	var c, rest api.Class
	for i := range len(s) {
		c[s[i]/64] |= 1 << (s[i] % 64)
	}
	for i := range c {
		rest[i] = ^c[i]
	}
	return c, rest
}

// random returns an automaton with n states over a, b and all other bytes.
func (s *numbers) random(n int) api.DFA {
	a, _ := letters("a")
	b, _ := letters("b")
	_, rest := letters("ab")
	d := api.DFA{Classes: []api.Class{a, rest, b}}
	rare := 1 + s.next(4)
	// With few different targets in a row, the lengths are not all the same.
	alike := s.next(2) == 0
	for range n {
		row := []int{s.next(n), s.next(n), s.next(n)}
		if alike {
			row[1], row[2] = row[0], row[0]
		}
		d.Next = append(d.Next, row)
		d.Accept = append(d.Accept, s.next(rare) == 0)
	}
	return d
}

// machines returns n automata of at most the given number of states, among them those of simple languages.
func machines(t *testing.T, n, states int) []api.DFA {
	t.Helper()
	s := sequence()
	var l []api.DFA
	for _, x := range []string{"!", "()", ".*", ".", "ab|abc", "a*b", "~a", "(aa)*|b(ccc)*", "(a|bb){3,5}", "~(a*)&~(.b*)"} {
		l = append(l, built(t, x))
	}
	for i := range n {
		l = append(l, s.random(1+i%states))
	}
	return l
}

// broken returns automata that are not valid.
func broken() []api.DFA {
	a, rest := letters("a")
	even := func() api.DFA {
		return api.DFA{Classes: []api.Class{a, rest}, Next: [][]int{{0, 1}, {1, 0}}, Accept: []bool{true, false}}
	}
	l := []api.DFA{{}, even(), even(), even(), even(), even(), even()}
	l[1].Next[1][0] = 2
	l[2].Next[0][1] = -1
	l[3].Next[1] = []int{1}
	l[4].Accept = []bool{true}
	l[5].Classes = l[5].Classes[:1]
	for range 63 {
		l[6].Next = append(l[6].Next, []int{0, 0})
		l[6].Accept = append(l[6].Accept, true)
	}
	return l
}
