package machine

import (
	"univocal/api"
	"univocal/class"
)

// A column contains the targets of all states by one cell.
type column [api.MaxStates]int

// Canonical returns the canonical automaton of the language of m, or ErrBig if it has too many states. Its states are the
// blocks of m. They need no further search to number them: least words lead to the first state of a block, in the order of
// these states, and they consist of least bytes, so that it does not matter that m may have more cells than the result.
func (m Machine[S]) Canonical() (api.DFA, api.Errno) {
	block, count := m.divide()
	if count > api.MaxStates {
		return api.DFA{}, api.ErrBig
	}
	d := api.DFA{Next: make([][]int, count)}
	var first []int
	for q, b := range block {
		if b == len(first) {
			first = append(first, q)
			d.Accept = append(d.Accept, m.Accept[q])
		}
	}
	number := map[column]int{}
	for c, cell := range m.Cells {
		var col column
		for b, q := range first {
			col[b] = block[m.Next[q][c]]
		}
		k, known := number[col]
		if !known {
			k = len(number)
			number[col] = k
			d.Classes = append(d.Classes, api.Class{})
			for b := range d.Next {
				d.Next[b] = append(d.Next[b], col[b])
			}
		}
		d.Classes[k] = class.Union(d.Classes[k], cell)
	}
	return d, api.OK
}

// divide returns the block of each state and the number of blocks: states are in different blocks if a word leads from
// exactly one of them to an accepting state. If there are more than MaxStates blocks, it stops when it knows that.
func (m Machine[S]) divide() ([]int, int) {
	block, count := split(make([]int, len(m.Next)), func(q int) int {
		if m.Accept[q] {
			return 1
		}
		return 0
	})
	for before := 0; before < count && count <= api.MaxStates; {
		before = count
		for c := range m.Cells {
			block, count = split(block, func(q int) int { return block[m.Next[q][c]] })
		}
	}
	return block, count
}

// split divides blocks such that all states of a block have the same mark. It returns the new block of each state and the
// number of blocks; they are numbered in the order of their first states.
func split(block []int, mark func(q int) int) ([]int, int) {
	number := map[pair]int{}
	parts := make([]int, len(block))
	for q, b := range block {
		part := pair{b, mark(q)}
		k, known := number[part]
		if !known {
			k = len(number)
			number[part] = k
		}
		parts[q] = k
	}
	return parts, len(number)
}
