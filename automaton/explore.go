package automaton

import (
	"slices"

	"univocal/api"
	"univocal/class"
)

// A pair is a pair of states or of their numbers.
type pair struct{ a, b int }

// A machine is a complete deterministic automaton whose states are numbered in the order in which a breadth-first search
// from state 0 reaches them. Its cells are a partition of all bytes in the order of their least bytes; next has one row for
// each state and one column for each cell. State i > 0 is reached first from the state from[i].a by the cell from[i].b.
type machine struct {
	cells  []api.Class
	next   [][]int
	accept []bool
	from   []pair
}

// explore returns the machine of the states that are reached from start, where step leads from a state by the index of a
// cell. It reports false if they are more than MaxSubsets.
func explore[S comparable](cells []api.Class, start S, step func(s S, c int) S, accept func(s S) bool) (machine, bool) {
	m := machine{cells: cells, from: []pair{{}}}
	states := []S{start}
	number := map[S]int{start: 0}
	for i := 0; i < len(states); i++ {
		row := make([]int, len(cells))
		for c := range cells {
			to := step(states[i], c)
			k, known := number[to]
			if !known {
				k = len(states)
				number[to] = k
				states = append(states, to)
				m.from = append(m.from, pair{i, c})
			}
			row[c] = k
		}
		if len(states) > api.MaxSubsets {
			return machine{}, false
		}
		m.next = append(m.next, row)
		m.accept = append(m.accept, accept(states[i]))
	}
	return m, true
}

// reader returns the transitions of d by the index of a cell, where every class of d is a union of cells.
func reader(d api.DFA, cells []api.Class) func(q, c int) int {
	column := make([]int, len(cells))
	for c, cell := range cells {
		column[c] = class.Index(d.Classes, byte(class.Least(cell)))
	}
	return func(q, c int) int { return d.Next[q][column[c]] }
}

// least returns the least word that m accepts. As the search reaches states in the order of their least words, it is the
// one by which the first accepting state was reached.
func (m machine) least() ([]byte, bool) {
	q := slices.Index(m.accept, true)
	if q < 0 {
		return nil, false
	}
	var w []byte
	for q != 0 {
		w = append(w, byte(class.Least(m.cells[m.from[q].b])))
		q = m.from[q].a
	}
	slices.Reverse(w)
	return w, true
}
