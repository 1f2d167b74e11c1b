package automaton_test

import (
	"slices"
	"testing"

	"univocal/api"
	"univocal/automaton"
)

// numbers is a fixed sequence of numbers.
type numbers uint64

func (s *numbers) next(n int) int {
	x := uint64(*s)
	x ^= x << 13
	x ^= x >> 7
	x ^= x << 17
	*s = numbers(x)
	return int(x >> 33 % uint64(n))
}

// permutation returns the numbers from 0 to n - 1 in some order.
func (s *numbers) permutation(n int) []int {
	l := make([]int, n)
	for i := range l {
		k := s.next(i + 1)
		l[i] = l[k]
		l[k] = i
	}
	return l
}

func sequence() *numbers {
	s := numbers(88172645463325252)
	return &s
}

func has(c api.Class, b int) bool { return c[b/64]&(1<<uint(b%64)) != 0 }

func add(c *api.Class, b int) { c[b/64] |= 1 << uint(b%64) }

// classOf builds the class of the bytes of a string from its definition.
func classOf(s string) api.Class {
	var c api.Class
	for i := range len(s) {
		add(&c, int(s[i]))
	}
	return c
}

// besides returns the class of the bytes that are not in s.
func besides(s string) api.Class {
	c := classOf(s)
	for i := range c {
		c[i] = ^c[i]
	}
	return c
}

var all = besides("")

// A table is an automaton as the chapter defines its meaning: a target for each state and byte.
type table struct {
	next   [][256]int
	accept []bool
}

// unfold reads a valid automaton byte by byte.
func unfold(d api.DFA) table {
	t := table{next: make([][256]int, len(d.Next)), accept: slices.Clone(d.Accept)}
	for b := range 256 {
		k := slices.IndexFunc(d.Classes, func(c api.Class) bool { return has(c, b) })
		for q, row := range d.Next {
			t.next[q][b] = row[k]
		}
	}
	return t
}

// accepts reports whether a word is accepted.
func (t table) accepts(w string) bool {
	q := 0
	for i := range len(w) {
		q = t.next[q][w[i]]
	}
	return t.accept[q]
}

// letters returns the bytes of which no less byte leads to the same states.
func (t table) letters() []int {
	var l []int
	for b := range 256 {
		if !slices.ContainsFunc(l, func(a int) bool { return t.same(a, b) }) {
			l = append(l, b)
		}
	}
	return l
}

// same reports whether two bytes lead from every state to the same state.
func (t table) same(a, b int) bool {
	for q := range t.next {
		if t.next[q][a] != t.next[q][b] {
			return false
		}
	}
	return true
}

// reached returns the states that are reached, in the order of a breadth-first search.
func (t table) reached() []int {
	l := []int{0}
	letters := t.letters()
	for i := 0; i < len(l); i++ {
		for _, b := range letters {
			if k := t.next[l[i]][b]; !slices.Contains(l, k) {
				l = append(l, k)
			}
		}
	}
	return l
}

// apart returns which pairs of states are told apart by a word, found by marking pairs.
func (t table) apart() [][]bool {
	n := len(t.next)
	l := make([][]bool, n)
	for p := range l {
		l[p] = make([]bool, n)
		for q := range n {
			l[p][q] = t.accept[p] != t.accept[q]
		}
	}
	letters := t.letters()
	for changed := true; changed; {
		changed = false
		for p := range n {
			for q := range p {
				differ := slices.ContainsFunc(letters, func(b int) bool { return l[t.next[p][b]][t.next[q][b]] })
				if differ && !l[p][q] {
					l[p][q], l[q][p], changed = true, true, true
				}
			}
		}
	}
	return l
}

// canon returns the canonical automaton by its definition.
func (t table) canon() api.DFA {
	apart := t.apart()
	leader := func(q int) int { return slices.Index(apart[q], false) }
	merged := table{next: make([][256]int, len(t.next)), accept: t.accept}
	for q := range t.next {
		for b := range 256 {
			merged.next[q][b] = leader(t.next[q][b])
		}
	}
	// The start is never led by another state than itself, because it is the first one.
	states := merged.reached()
	var d api.DFA
	small := table{next: make([][256]int, len(states))}
	for i, q := range states {
		for b := range 256 {
			small.next[i][b] = slices.Index(states, merged.next[q][b])
		}
		d.Accept = append(d.Accept, t.accept[q])
		d.Next = append(d.Next, nil)
	}
	for _, a := range small.letters() {
		var c api.Class
		for b := range 256 {
			if small.same(a, b) {
				add(&c, b)
			}
		}
		d.Classes = append(d.Classes, c)
		for i := range d.Next {
			d.Next[i] = append(d.Next[i], small.next[i][a])
		}
	}
	return d
}

// both returns the table of all pairs of states.
func both(t, u table, accept func(x, y bool) bool) table {
	n := len(u.next)
	r := table{next: make([][256]int, len(t.next)*n), accept: make([]bool, len(t.next)*n)}
	for p := range t.next {
		for q := range u.next {
			for b := range 256 {
				r.next[p*n+q][b] = t.next[p][b]*n + u.next[q][b]
			}
			r.accept[p*n+q] = accept(t.accept[p], u.accept[q])
		}
	}
	return r
}

// determined returns the table of the sets of states that an automaton with several targets for each byte leads to, from
// the states of start. The states are numbers below n.
func determined(n int, letters func(b int) int, start []int, next func(q, b int) []int, accept func(q int) bool) table {
	var t table
	var sets []string
	number := func(l []int) int {
		in := make([]byte, n)
		for _, q := range l {
			in[q] = 1
		}
		k := slices.Index(sets, string(in))
		if k < 0 {
			k = len(sets)
			sets = append(sets, string(in))
			t.next = append(t.next, [256]int{})
			t.accept = append(t.accept, slices.ContainsFunc(l, accept))
		}
		return k
	}
	number(start)
	for i := 0; i < len(sets); i++ {
		for b := range 256 {
			if a := letters(b); a < b {
				t.next[i][b] = t.next[i][a]
				continue
			}
			var l []int
			for q := range n {
				if sets[i][q] == 1 {
					l = append(l, next(q, b)...)
				}
			}
			t.next[i][b] = number(l)
		}
	}
	return t
}

// concat returns a table of the words of t followed by words of u, where the states of u come behind those of t.
func concat(t, u table) table {
	n := len(t.next)
	enter := func(q int) []int {
		if q < n && t.accept[q] {
			return []int{q, n}
		}
		return []int{q}
	}
	next := func(q, b int) []int {
		if q < n {
			return enter(t.next[q][b])
		}
		return []int{n + u.next[q-n][b]}
	}
	letters := func(b int) int {
		for a := range b {
			if t.same(a, b) && u.same(a, b) {
				return a
			}
		}
		return b
	}
	return determined(n+len(u.next), letters, enter(0), next, func(q int) bool { return q >= n && u.accept[q-n] })
}

// star returns a table of the words that consist of words of t, with a further state for the empty word.
func star(t table) table {
	n := len(t.next)
	next := func(q, b int) []int {
		to := t.next[q%n][b]
		if t.accept[to] {
			return []int{to, n}
		}
		return []int{to}
	}
	letters := func(b int) int {
		for a := range b {
			if t.same(a, b) {
				return a
			}
		}
		return b
	}
	return determined(n+1, letters, []int{n}, next, func(q int) bool { return q == n })
}

// least returns the least word that is accepted, from the least words of 0, 1, 2 .. bytes that each state accepts.
func (t table) least() (string, bool) {
	n := len(t.next)
	words, some := make([]string, n), slices.Clone(t.accept)
	for range n {
		if some[0] {
			return words[0], true
		}
		longer, more := make([]string, n), make([]bool, n)
		for q := range n {
			for b := 255; b >= 0; b-- {
				to := t.next[q][b]
				if w := string([]byte{byte(b)}) + words[to]; some[to] && (!more[q] || w < longer[q]) {
					longer[q], more[q] = w, true
				}
			}
		}
		words, some = longer, more
	}
	return "", false
}

// same reports whether two automata are the same value.
func same(a, b api.DFA) bool {
	return slices.Equal(a.Classes, b.Classes) && slices.EqualFunc(a.Next, b.Next, slices.Equal) && slices.Equal(a.Accept, b.Accept)
}

func clone(d api.DFA) api.DFA {
	c := api.DFA{Classes: slices.Clone(d.Classes), Accept: slices.Clone(d.Accept)}
	for _, row := range d.Next {
		c.Next = append(c.Next, slices.Clone(row))
	}
	return c
}

// zero reports whether an automaton is the zero value.
func zero(d api.DFA) bool { return len(d.Classes) == 0 && len(d.Next) == 0 && len(d.Accept) == 0 }

// classes returns a partition of all bytes into k classes, in any order: mostly single letters, or all bytes mixed.
func (s *numbers) classes(k int) []api.Class {
	order := s.permutation(k)
	l := make([]api.Class, k)
	mixed := s.next(2) == 0
	for b := range 256 {
		i := k - 1
		if mixed {
			i = s.next(k)
		}
		if first := b - []int{'a', 0, 255 - k}[k%3]; first >= 0 && first < k {
			i = first
		}
		add(&l[order[i]], b)
	}
	return l
}

// automaton returns an automaton with n states and k classes, in any order.
func (s *numbers) automaton(n, k int) api.DFA {
	d := api.DFA{Classes: s.classes(k)}
	rare := 2 + s.next(3)
	for range n {
		var row []int
		for range k {
			row = append(row, s.next(n))
		}
		d.Next = append(d.Next, row)
		d.Accept = append(d.Accept, s.next(rare) == 0)
	}
	return d
}

// blown returns another automaton with the same language: its states are in another order, some of them several times, and
// some are never reached; its classes are divided and in another order.
func (s *numbers) blown(d api.DFA, n int) api.DFA {
	states := len(d.Next)
	copies := make([][]int, states)
	role := make([]int, n)
	for i, k := range s.permutation(n - 1) {
		role[k+1] = i + 1
		if i+1 >= states {
			role[k+1] = s.next(states)
		}
	}
	for i, q := range role {
		copies[q] = append(copies[q], i)
	}
	var e api.DFA
	var columns []int
	for c, cell := range d.Classes {
		var parts [2]api.Class
		for b := range 256 {
			if has(cell, b) {
				add(&parts[s.next(2)], b)
			}
		}
		for _, p := range parts {
			if p != (api.Class{}) {
				e.Classes = append(e.Classes, p)
				columns = append(columns, c)
			}
		}
	}
	for i, k := range s.permutation(len(columns)) {
		e.Classes[i], e.Classes[k] = e.Classes[k], e.Classes[i]
		columns[i], columns[k] = columns[k], columns[i]
	}
	for _, q := range role {
		var row []int
		for _, c := range columns {
			l := copies[d.Next[q][c]]
			row = append(row, l[s.next(len(l))])
		}
		e.Next = append(e.Next, row)
		e.Accept = append(e.Accept, d.Accept[q])
	}
	return e
}

// samples returns valid automata of many kinds, which are not canonical.
func samples(n int) []api.DFA {
	s := sequence()
	var l []api.DFA
	for i := range n {
		l = append(l, s.automaton(1+i%6, 1+i%4))
	}
	return l
}

// words returns all words over the alphabet of at most n bytes.
func words(alphabet string, n int) []string {
	l := []string{""}
	for from := 0; n > 0; n-- {
		to := len(l)
		for ; from < to; from++ {
			for i := range len(alphabet) {
				l = append(l, l[from]+alphabet[i:i+1])
			}
		}
	}
	return l
}

// alphabet returns a byte of each class, at most four.
func alphabet(l ...api.DFA) string {
	var s string
	for _, d := range l {
		for _, c := range d.Classes {
			b := 0
			for !has(c, b) {
				b++
			}
			if x := string([]byte{byte(b)}); len(s) < 4 && !slices.Contains([]byte(s), byte(b)) {
				s += x
			}
		}
	}
	return s
}

// valid fails unless an operation has a result.
func valid(t *testing.T, what string, d api.DFA, err api.Errno) api.DFA {
	t.Helper()
	if err != api.OK || !automaton.Valid(d) {
		t.Fatalf("%s: %v, %v", what, d, err)
	}
	return d
}

// word returns the automaton of a word.
func word(t *testing.T, w string) api.DFA {
	t.Helper()
	d, err := automaton.Word([]byte(w))
	return valid(t, "Word of "+w, d, err)
}

// check fails unless the result of an operation is the canonical automaton of the language of a table.
func check(t *testing.T, what string, d api.DFA, err api.Errno, want table) {
	t.Helper()
	c := want.canon()
	if len(c.Next) > api.MaxStates {
		if err != api.ErrBig || !zero(d) {
			t.Fatalf("%s: %v, %v for a result with %d states", what, d, err, len(c.Next))
		}
		return
	}
	if err != api.OK || !same(d, c) {
		t.Fatalf("%s: got %v, %v, want %v", what, d, err, c)
	}
}
