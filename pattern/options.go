package pattern

import (
	"math/bits"
	"slices"

	"univocal/api"
	"univocal/automaton"
	"univocal/class"
	"univocal/language"
	"univocal/machine"
)

// An option is a class of words of a part with the same admitted rests: the automata of these words and of these rests.
type option struct{ head, rest api.DFA }

// collect returns the options of a part, in order. The machine m accepts the words of the part; words that lead to the same
// state have the same admitted rests, and rest returns the automaton of these for the number of an accepting state.
func collect[S comparable](m machine.Machine[S], rest func(q int) (api.DFA, api.Errno)) ([]option, api.Errno) {
	var options []option
	var members [][]bool
	for q, accepting := range m.Accept {
		if !accepting {
			continue
		}
		r, err := rest(q)
		if err != api.OK {
			return nil, err
		}
		if _, some := automaton.Least(r); !some {
			continue
		}
		k := slices.IndexFunc(options, func(o option) bool { return same(o.rest, r) })
		// States are in the order of their least words, so that new options are in order as well.
		if k < 0 {
			k = len(options)
			options = append(options, option{rest: r})
			members = append(members, make([]bool, len(m.Accept)))
		}
		members[k][q] = true
	}
	for k := range options {
		var err api.Errno
		m.Accept = members[k]
		options[k].head, err = m.Canonical()
		if err != api.OK {
			return nil, err
		}
	}
	return options, api.OK
}

// same reports whether two canonical automata are the same.
func same(a, b api.DFA) bool {
	return slices.Equal(a.Classes, b.Classes) && slices.Equal(a.Accept, b.Accept) && slices.EqualFunc(a.Next, b.Next, slices.Equal)
}

// languages returns the automaton of the language of each state of the canonical automaton d. The machine of d has the same
// numbers of states, because it numbers them as canonical automata do.
func languages(d api.DFA) ([]api.DFA, api.Errno) {
	m := machine.Walk(d)
	var l []api.DFA
	for q := range m.Next {
		e, err := language.Quotient(d, m.Word(q))
		if err != api.OK {
			return nil, err
		}
		l = append(l, e)
	}
	return l, api.OK
}

// greedy returns the options of a part whose words are those of a, with rests among those of b.
func greedy(a, b api.DFA) ([]option, api.Errno) {
	after, err := languages(a)
	if err != api.OK {
		return nil, err
	}
	empty, err := automaton.Word(nil)
	if err != api.OK {
		return nil, err
	}
	return collect(machine.Walk(a), func(q int) (api.DFA, api.Errno) {
		more, err := automaton.Minus(after[q], empty)
		if err != api.OK {
			return api.DFA{}, err
		}
		// A rest is not admitted if the part could take more of it.
		taken, err := automaton.Concat(more, b)
		if err != api.OK {
			return api.DFA{}, err
		}
		return automaton.Minus(b, taken)
	})
}

// A split is what counts of a word that a lazy part reads: the state to which the word leads, and the states of the automaton
// of the rests to which its ends lead, if they are not empty and what is before them is a word of the part.
type split struct {
	word int
	ends set
}

// lazy returns the options of a part whose words are those of a, with rests among those of b.
func lazy(a, b api.DFA) ([]option, api.Errno) {
	cells := class.Cells(slices.Concat(a.Classes, b.Classes))
	left, right := machine.Reader(a, cells), machine.Reader(b, cells)
	step := func(s split, c int) split {
		ends := s.ends
		if a.Accept[s.word] {
			ends |= 1
		}
		to := split{word: left(s.word, c)}
		for ; ends != 0; ends &= ends - 1 {
			to.ends |= 1 << right(bits.TrailingZeros64(uint64(ends)), c)
		}
		return to
	}
	m, ok := machine.Explore(cells, split{}, step, func(s split) bool { return a.Accept[s.word] }, api.MaxSubsets)
	if !ok {
		return nil, api.ErrBig
	}
	after, err := languages(b)
	if err != api.OK {
		return nil, err
	}
	union := unions(after)
	return collect(m, func(q int) (api.DFA, api.Errno) {
		// A rest is not admitted if it could take an end of the word.
		taking, err := union(m.States[q].ends)
		if err != api.OK {
			return api.DFA{}, err
		}
		return automaton.Minus(b, taking)
	})
}

// unions returns a function that unites the languages in l of the states of a set, in increasing order. It keeps what it has
// united, because sets have beginnings in common.
func unions(l []api.DFA) func(s set) (api.DFA, api.Errno) {
	known := map[set]api.DFA{}
	var union func(s set) (api.DFA, api.Errno)
	union = func(s set) (api.DFA, api.Errno) {
		if s == 0 {
			return automaton.Minus(l[0], l[0])
		}
		if d, ok := known[s]; ok {
			return d, api.OK
		}
		last := bits.Len64(uint64(s)) - 1
		d, err := union(s &^ (1 << last))
		if err != api.OK {
			return api.DFA{}, err
		}
		d, err = automaton.Or(d, l[last])
		if err == api.OK {
			known[s] = d
		}
		return d, err
	}
	return union
}
