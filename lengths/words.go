package lengths

import (
	"math/bits"

	"univocal/api"
	"univocal/automaton"
)

// Of returns the lengths of the words of a language.
func Of(d api.DFA) (api.Lengths, api.Errno) {
	if !automaton.Valid(d) {
		return api.Lengths{}, api.ErrArg
	}
	// In a set of states, state q is a member if bit q is set.
	next := make([]uint64, len(d.Next))
	var accepting uint64
	for q, row := range d.Next {
		for _, to := range row {
			next[q] |= 1 << to
		}
		if d.Accept[q] {
			accepting |= 1 << q
		}
	}
	var l []bool
	first := map[uint64]int{}
	reached := uint64(1)
	// This takes no more than about a million steps: the sets soon repeat with a period that divides the least common
	// multiple of the lengths of cycles without common states.
follow:
	for {
		if _, again := first[reached]; again {
			break follow
		}
		first[reached] = len(l)
		l = append(l, reached&accepting != 0)
		var to uint64
		// Clearing the lowest bit leaves the greater states.
		for s := reached; s != 0; s &= s - 1 {
			to |= next[bits.TrailingZeros64(s)]
		}
		reached = to
	}
	return canonical(l, first[reached])
}
