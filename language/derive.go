package language

import (
	"slices"

	"univocal/api"
	"univocal/automaton"
	"univocal/class"
)

// Quotient returns the automaton of the words that follow a prefix.
func Quotient(d api.DFA, w []byte) (api.DFA, api.Errno) {
	if !automaton.Valid(d) {
		return api.DFA{}, api.ErrArg
	}
	q := 0
	for _, b := range w {
		q = d.Next[q][class.Index(d.Classes, b)]
	}
	return automaton.Canon(started(d, q))
}

// started returns d with the states 0 and q exchanged, so that it starts in q.
func started(d api.DFA, q int) api.DFA {
	number := func(s int) int {
		switch s {
		case 0:
			return q
		case q:
			return 0
		}
		return s
	}
	e := api.DFA{Classes: d.Classes}
	for s := range d.Next {
		var row []int
		for _, to := range d.Next[number(s)] {
			row = append(row, number(to))
		}
		e.Next = append(e.Next, row)
		e.Accept = append(e.Accept, d.Accept[number(s)])
	}
	return e
}

// Prefixes returns the automaton of all prefixes.
func Prefixes(d api.DFA) (api.DFA, api.Errno) {
	if !automaton.Valid(d) {
		return api.DFA{}, api.ErrArg
	}
	// A word is a prefix if it leads to a state from which an accepting one is reached.
	live := slices.Clone(d.Accept)
	for grown := true; grown; {
		grown = false
		for q, row := range d.Next {
			if !live[q] && slices.ContainsFunc(row, func(to int) bool { return live[to] }) {
				live[q], grown = true, true
			}
		}
	}
	return automaton.Canon(api.DFA{Classes: d.Classes, Next: d.Next, Accept: live})
}

// A set is a set of states: state q is a member if element q is true.
type set [api.MaxStates]bool

// Reverse returns the automaton of the reversed words.
func Reverse(d api.DFA) (api.DFA, api.Errno) {
	d, err := automaton.Canon(d)
	if err != api.OK {
		return api.DFA{}, err
	}
	var accepting set
	copy(accepting[:], d.Accept)
	sets := []set{accepting}
	number := map[set]int{accepting: 0}
	r := api.DFA{Classes: d.Classes}
	for i := 0; i < len(sets); i++ {
		row := make([]int, len(d.Classes))
		for c := range row {
			from := sources(d, sets[i], c)
			k, known := number[from]
			if !known {
				k = len(sets)
				number[from] = k
				sets = append(sets, from)
			}
			row[c] = k
		}
		// Every state of d is reached by a word, and read from right to left this word tells the sets with the state from the
		// sets without it. So no two sets become one state, and MaxStates is exceeded long before MaxSubsets.
		if len(sets) > api.MaxStates {
			return api.DFA{}, api.ErrBig
		}
		r.Next = append(r.Next, row)
		r.Accept = append(r.Accept, sets[i][0])
	}
	return automaton.Canon(r)
}

// sources returns the set of the states whose target by the class c is a member of s.
func sources(d api.DFA, s set, c int) set {
	var from set
	for q, row := range d.Next {
		from[q] = s[row[c]]
	}
	return from
}
