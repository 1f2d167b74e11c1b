package pattern_test

import (
	"slices"
	"strconv"
	"testing"

	"univocal/api"
	"univocal/automaton"
	"univocal/class"
)

// A reading of a part is what the chapter says about it, literally: an automaton that reads the words of the part and has a
// target for each state and byte, where letter gives the first byte with the same targets; for each option the states to
// which its words lead, and its admitted rests; or the reason why a construction is too large.
type reading struct {
	letter  [256]int
	next    [][256]int
	members [][]bool
	rests   []api.DFA
	big     string
}

// target returns the state to which d leads from q by a byte.
func target(d api.DFA, q, b int) int { return d.Next[q][class.Index(d.Classes, byte(b))] }

// from returns the automaton of the words that lead from the state q of d to an accepting state.
func from(t *testing.T, d api.DFA, q int) api.DFA {
	t.Helper()
	// The states 0 and q change places.
	place := func(s int) int {
		if s == 0 || s == q {
			return q - s
		}
		return s
	}
	e := clone(d)
	for s, row := range d.Next {
		e.Accept[place(s)] = d.Accept[s]
		for c, to := range row {
			e.Next[place(s)][c] = place(to)
		}
	}
	e, err := automaton.Canon(e)
	if err != api.OK {
		t.Fatalf("Canon of %v: %v", e, err)
	}
	return e
}

// letters returns, for each byte, the first byte that leads to the same states of both automata.
func letters(a, b api.DFA) [256]int {
	var l [256]int
	for x := range l {
		l[x] = x
		for y := range x {
			if class.Index(a.Classes, byte(x)) == class.Index(a.Classes, byte(y)) && class.Index(b.Classes, byte(x)) == class.Index(b.Classes, byte(y)) {
				l[x] = y
				break
			}
		}
	}
	return l
}

// follow returns the states that are reached from start, in the order of their least words, and their transitions; nothing
// if they are more than most.
func follow(start string, most int, letter [256]int, step func(s string, b int) string) ([]string, [][256]int) {
	l := []string{start}
	number := map[string]int{start: 0}
	var next [][256]int
	for i := 0; i < len(l); i++ {
		var row [256]int
		for b := range 256 {
			if letter[b] != b {
				row[b] = row[letter[b]]
				continue
			}
			to := step(l[i], b)
			k, known := number[to]
			if !known {
				k = len(l)
				number[to] = k
				l = append(l, to)
			}
			row[b] = k
		}
		if len(l) > most {
			return nil, nil
		}
		next = append(next, row)
	}
	return l, next
}

// add adds a state of the reading to the option with the admitted rests r, if there are any.
func (x *reading) add(q int, r api.DFA) {
	if _, some := automaton.Least(r); !some {
		return
	}
	k := slices.IndexFunc(x.rests, func(s api.DFA) bool {
		_, differ := automaton.Apart(r, s)
		return !differ
	})
	if k < 0 {
		k = len(x.rests)
		x.rests = append(x.rests, r)
		x.members = append(x.members, make([]bool, len(x.next)))
	}
	x.members[k][q] = true
}

// greedy reads a part that is not lazy, where a is the automaton of the part and b that of the words of all later parts.
func greedy(t *testing.T, a, b api.DFA) reading {
	t.Helper()
	number := func(s string) int {
		n, _ := strconv.Atoi(s)
		return n
	}
	letter := letters(a, b)
	l, next := follow("0", 64, letter, func(s string, c int) string { return strconv.Itoa(target(a, number(s), c)) })
	x := reading{letter: letter, next: next}
	empty, _ := automaton.Word(nil)
	for q, s := range l {
		if !a.Accept[number(s)] {
			continue
		}
		more, err := automaton.Minus(from(t, a, number(s)), empty)
		if err != api.OK {
			return reading{big: "more"}
		}
		taken, err := automaton.Concat(more, b)
		if err != api.OK {
			return reading{big: "taken"}
		}
		r, err := automaton.Minus(b, taken)
		if err != api.OK {
			return reading{big: "left"}
		}
		x.add(q, r)
	}
	return x
}

// pairs returns the pairs of a lazy part, in the order of their least words, and their transitions; nothing if they are more
// than most. A pair is a string that contains the state of a and then the marks of the states of b.
func pairs(a, b api.DFA, most int) ([]string, [][256]int) {
	none := string(make([]byte, 1+len(b.Next)))
	return follow(none, most, letters(a, b), func(s string, c int) string {
		to := []byte(none)
		to[0] = byte(target(a, int(s[0]), c))
		for q := range b.Next {
			if s[1+q] == 1 || q == 0 && a.Accept[s[0]] {
				to[1+target(b, q, c)] = 1
			}
		}
		return string(to)
	})
}

// lazy reads a lazy part.
func lazy(t *testing.T, a, b api.DFA) reading {
	t.Helper()
	l, next := pairs(a, b, 4096)
	if l == nil {
		return reading{big: "pairs"}
	}
	x := reading{letter: letters(a, b), next: next}
	for i, s := range l {
		if !a.Accept[s[0]] {
			continue
		}
		union := api.DFA{Classes: class.Cells(nil), Next: [][]int{{0}}, Accept: []bool{false}}
		for q := range b.Next {
			var err api.Errno
			if s[1+q] == 0 {
				continue
			}
			if union, err = automaton.Or(union, from(t, b, q)); err != api.OK {
				return reading{big: "union"}
			}
		}
		r, err := automaton.Minus(b, union)
		if err != api.OK {
			return reading{big: "rest"}
		}
		x.add(i, r)
	}
	return x
}

// states returns the number of states of the canonical automaton of an option, found by telling states apart step by step.
func (x reading) states(k int) int {
	mark := make([]int, len(x.next))
	count := 1
	for before := 0; count > before; {
		before = count
		number := map[string]int{}
		marks := make([]int, len(mark))
		for q := range mark {
			key := strconv.FormatBool(x.members[k][q])
			for b, same := range x.letter {
				if b == same {
					key += " " + strconv.Itoa(mark[x.next[q][b]])
				}
			}
			n, known := number[key]
			if !known {
				n = len(number)
				number[key] = n
			}
			marks[q] = n
		}
		mark, count = marks, len(number)
	}
	return count
}

// readings reads all parts of a pattern, which has to have a language. It also returns the reasons why a construction is too
// large, one for each part.
func readings(t *testing.T, p api.Pattern) ([]reading, []string) {
	t.Helper()
	var l []reading
	var big []string
	for i, part := range p {
		b, _ := automaton.Word(nil)
		if i+1 < len(p) {
			b, _ = joined(t, p[i+1:])
		}
		read := greedy
		if part.Lazy {
			read = lazy
		}
		x := read(t, built(t, part.R), b)
		for k := range x.members {
			if x.big == "" && x.states(k) > 64 {
				x.big = "option"
			}
		}
		if x.big != "" {
			big = append(big, x.big)
		}
		l = append(l, x)
	}
	return l, big
}

// check fails unless d is the canonical automaton of the words that lead to the members of an option.
func (x reading) check(t *testing.T, what string, d api.DFA, k int) {
	t.Helper()
	if c, err := automaton.Canon(d); err != api.OK || !same(c, d) {
		t.Fatalf("%s: %v is not canonical", what, d)
	}
	type pair struct{ p, q int }
	l := []pair{{0, 0}}
	seen := map[pair]bool{{0, 0}: true}
	for i := 0; i < len(l); i++ {
		if d.Accept[l[i].p] != x.members[k][l[i].q] {
			t.Fatalf("%s: %v has other words than option %d", what, d, k)
		}
		for b := range 256 {
			to := pair{target(d, l[i].p, b), x.next[l[i].q][b]}
			if !seen[to] {
				seen[to] = true
				l = append(l, to)
			}
		}
	}
}
