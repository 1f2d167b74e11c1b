package automaton

import (
	"iter"
	"math/bits"
	"slices"

	"univocal/api"
	"univocal/class"
	"univocal/machine"
)

// A set is a set of states: state q is a member if bit q%64 of element q/64 is set.
type set [(api.MaxStates + 63) / 64]uint64

// with returns s with the further member q.
func (s set) with(q int) set {
	s[q/64] |= 1 << (q % 64)
	return s
}

// members enumerates the members of s.
func (s set) members() iter.Seq[int] {
	return func(yield func(int) bool) {
		for i, word := range s {
			// Clearing the lowest bit of a word leaves the greater members.
			for ; word != 0; word &= word - 1 {
				if !yield(64*i + bits.TrailingZeros64(word)) {
					return
				}
			}
		}
	}
}

// targets returns the set of the targets of the members of s by the cell c.
func (s set) targets(next func(q, c int) int, c int) set {
	var t set
	for q := range s.members() {
		t = t.with(next(q, c))
	}
	return t
}

// accepting reports whether a member of s is accepting in d.
func (s set) accepting(d api.DFA) bool {
	for q := range s.members() {
		if d.Accept[q] {
			return true
		}
	}
	return false
}

// A cut is a state of the subset construction of Concat: the state of the first automaton, and the states of the second
// one after all ways to divide what was read.
type cut struct {
	p    int
	rest set
}

// Concat returns the concatenation.
func Concat(a, b api.DFA) (api.DFA, api.Errno) {
	a, err := Canon(a)
	if err != api.OK {
		return api.DFA{}, err
	}
	b, err = Canon(b)
	if err != api.OK {
		return api.DFA{}, err
	}
	cells := class.Cells(slices.Concat(a.Classes, b.Classes))
	left, right := machine.Reader(a, cells), machine.Reader(b, cells)
	enter := func(p int, rest set) cut {
		if a.Accept[p] {
			rest = rest.with(0)
		}
		return cut{p, rest}
	}
	step := func(s cut, c int) cut { return enter(left(s.p, c), s.rest.targets(right, c)) }
	return subsets(cells, enter(0, set{}), step, func(s cut) bool { return s.rest.accepting(b) })
}

// A round is a state of the subset construction of Star: the first state, or the states of the automaton after all ways to
// divide what was read.
type round struct {
	first bool
	open  set
}

// Star returns the iteration.
func Star(a api.DFA) (api.DFA, api.Errno) {
	a, err := Canon(a)
	if err != api.OK {
		return api.DFA{}, err
	}
	next := machine.Reader(a, a.Classes)
	step := func(s round, c int) round {
		open := s.open.targets(next, c)
		if open.accepting(a) {
			open = open.with(0)
		}
		return round{false, open}
	}
	// The first state leads to the same sets as the set with state 0.
	return subsets(a.Classes, round{true, set{}.with(0)}, step, func(s round) bool { return s.first || s.open.accepting(a) })
}

// subsets returns the canonical automaton of a subset construction, or ErrBig if one of them has too many states.
func subsets[S comparable](cells []api.Class, start S, step func(s S, c int) S, accept func(s S) bool) (api.DFA, api.Errno) {
	m, ok := machine.Explore(cells, start, step, accept, api.MaxSubsets)
	if !ok {
		return api.DFA{}, api.ErrBig
	}
	return m.Canonical()
}
