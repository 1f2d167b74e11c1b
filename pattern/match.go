package pattern

import (
	"math/bits"

	"univocal/api"
	"univocal/class"
)

// A set is a set of states of an automaton: state q is a member if bit q is set.
type set uint64

// Match returns the parts of a word.
func Match(p api.Pattern, b []byte) ([]api.Span, bool) {
	l, err := parts(p)
	if err != api.OK {
		return nil, false
	}
	// ends[i] tells where part i may end: at the places behind which the parts that follow divide the rest of b.
	ends := make([][]bool, len(l))
	last := make([]bool, len(b)+1)
	last[len(b)] = true
	for i := len(l) - 1; i >= 0; i-- {
		ends[i] = last
		last = starts(l[i], b, last)
	}
	if !last[0] {
		return nil, false
	}
	var spans []api.Span
	at := 0
	for i, part := range p {
		to := end(l[i], b, at, ends[i], part.Lazy)
		spans = append(spans, api.Span{From: at, To: to})
		at = to
	}
	return spans, true
}

// columns returns the index of the class of each byte.
func columns(d api.DFA) [256]int {
	var l [256]int
	for b := range l {
		l[b] = class.Index(d.Classes, byte(b))
	}
	return l
}

// starts returns at which places of b a word begins that d accepts and that ends at a place that ends contains. It goes
// through b from right to left, with the set of the states from which such an end is reached.
func starts(d api.DFA, b []byte, ends []bool) []bool {
	column := columns(d)
	from := sources(d)
	var accepting set
	for q, accepts := range d.Accept {
		if accepts {
			accepting |= 1 << q
		}
	}
	l := make([]bool, len(b)+1)
	var s set
	for k := len(b); ; k-- {
		if ends[k] {
			s |= accepting
		}
		l[k] = s&1 != 0
		if k == 0 {
			return l
		}
		var before set
		// Clearing the lowest bit leaves the greater states.
		for ; s != 0; s &= s - 1 {
			before |= from[bits.TrailingZeros64(uint64(s))][column[b[k-1]]]
		}
		s = before
	}
}

// sources returns, for each state and each class of d, the set of the states that the class leads to the state.
func sources(d api.DFA) [][]set {
	l := make([][]set, len(d.Next))
	for q := range l {
		l[q] = make([]set, len(d.Classes))
	}
	for q, row := range d.Next {
		for c, to := range row {
			l[to][c] |= 1 << q
		}
	}
	return l
}

// end returns the end of the longest (with lazy, the shortest) word of b that begins at from, that d accepts and that ends at
// a place that ends contains. There has to be one.
func end(d api.DFA, b []byte, from int, ends []bool, lazy bool) int {
	column := columns(d)
	to, q := from, 0
search:
	for k := from; ; k++ {
		if d.Accept[q] && ends[k] {
			to = k
			if lazy {
				break search
			}
		}
		if k == len(b) {
			break search
		}
		q = d.Next[q][column[b[k]]]
	}
	return to
}
