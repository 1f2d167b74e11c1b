package language

import (
	"iter"
	"slices"

	"univocal/api"
	"univocal/automaton"
	"univocal/class"
)

// maxLength is the greatest length whose words Count counts, maxCount the greatest number that it returns.
const (
	maxLength = 64
	maxCount  = 1 << 40
)

// Count returns the number of words of a length.
func Count(d api.DFA, n int) (int, api.Errno) {
	if !automaton.Valid(d) || n < 0 || n > maxLength {
		return 0, api.ErrArg
	}
	count := counts(d, n)[n][0]
	if count > maxCount {
		return 0, api.ErrBig
	}
	return count, api.OK
}

// counts returns, for each length up to n and each state, the number of words of this length that lead from the state to an
// accepting one. Numbers greater than maxCount are given as maxCount + 1, as they could overflow.
func counts(d api.DFA, n int) [][]int {
	none := make([]int, len(d.Next))
	for q, accepting := range d.Accept {
		if accepting {
			none[q] = 1
		}
	}
	l := [][]int{none}
	for k := range n {
		longer := make([]int, len(d.Next))
		for c, cell := range d.Classes {
			size := class.Size(cell)
			for q, row := range d.Next {
				longer[q] = min(longer[q]+size*l[k][row[c]], maxCount+1)
			}
		}
		l = append(l, longer)
	}
	return l
}

// List returns the words of at most a length, in order.
func List(d api.DFA, most int) ([][]byte, api.Errno) {
	if !automaton.Valid(d) || most < 0 || most > api.MaxLen {
		return nil, api.ErrArg
	}
	counted := counts(d, most)
	total := 0
	for _, l := range counted {
		total += l[0]
	}
	if total > api.MaxWords {
		return nil, api.ErrBig
	}
	var l [][]byte
	for w := range words(d, counted) {
		l = append(l, w)
	}
	return l, api.OK
}

// words enumerates the words of d that are counted, in shortlex order.
func words(d api.DFA, counted [][]int) iter.Seq[[]byte] {
	var column [256]int
	for b := range column {
		column[b] = class.Index(d.Classes, byte(b))
	}
	return func(yield func([]byte) bool) {
		var extend func(w []byte, q, n int) bool
		extend = func(w []byte, q, n int) bool {
			// Most of the ways through a large alphabet end in no word.
			if counted[n][q] == 0 {
				return true
			}
			if n == 0 {
				return yield(slices.Clone(w))
			}
			for b := range 256 {
				if !extend(append(w, byte(b)), d.Next[q][column[b]], n-1) {
					return false
				}
			}
			return true
		}
		for n := range counted {
			if !extend(nil, 0, n) {
				return
			}
		}
	}
}
