// Package machine explores and minimizes automata that may be larger than those of layer 3. The layers that construct such automata share it.
package machine

import (
	"slices"

	"univocal/api"
	"univocal/class"
)

// A pair is a pair of numbers of states, blocks or cells.
type pair struct{ a, b int }

// A Machine is a complete deterministic automaton whose states are numbered in the order in which a breadth-first search
// from state 0 reaches them, which is that of their least words. Cells is a partition of all bytes in the order of their
// least bytes; Next has one row for each state and one column for each cell. State i > 0 is reached first from the state
// from[i].a by the cell from[i].b.
type Machine[S comparable] struct {
	Cells  []api.Class
	States []S
	Next   [][]int
	Accept []bool
	from   []pair
}

// Explore returns the machine of the states that are reached from start, where step leads from a state by the index of a
// cell. It reports false if they are more than most.
func Explore[S comparable](cells []api.Class, start S, step func(s S, c int) S, accept func(s S) bool, most int) (Machine[S], bool) {
	m := Machine[S]{Cells: cells, States: []S{start}, from: []pair{{}}}
	number := map[S]int{start: 0}
	for i := 0; i < len(m.States); i++ {
		row := make([]int, len(cells))
		for c := range cells {
			to := step(m.States[i], c)
			k, known := number[to]
			if !known {
				k = len(m.States)
				number[to] = k
				m.States = append(m.States, to)
				m.from = append(m.from, pair{i, c})
			}
			row[c] = k
		}
		if len(m.States) > most {
			return Machine[S]{}, false
		}
		m.Next = append(m.Next, row)
		m.Accept = append(m.Accept, accept(m.States[i]))
	}
	return m, true
}

// Walk returns the machine of the states of an automaton that are reached from its start. The automaton is valid, except that
// it may have more than MaxStates states.
func Walk(d api.DFA) Machine[int] {
	cells := class.Cells(d.Classes)
	m, _ := Explore(cells, 0, Reader(d, cells), func(q int) bool { return d.Accept[q] }, len(d.Next))
	return m
}

// Reader returns the transitions of d by the index of a cell, where every class of d is a union of cells.
func Reader(d api.DFA, cells []api.Class) func(q, c int) int {
	column := make([]int, len(cells))
	for c, cell := range cells {
		column[c] = class.Index(d.Classes, byte(class.Least(cell)))
	}
	return func(q, c int) int { return d.Next[q][column[c]] }
}

// Word returns the least word that leads to the state number q: it is the one by which the search has reached it.
func (m Machine[S]) Word(q int) []byte {
	var w []byte
	for q != 0 {
		w = append(w, byte(class.Least(m.Cells[m.from[q].b])))
		q = m.from[q].a
	}
	slices.Reverse(w)
	return w
}

// Least returns the least word that m accepts.
func (m Machine[S]) Least() ([]byte, bool) {
	q := slices.Index(m.Accept, true)
	if q < 0 {
		return nil, false
	}
	return m.Word(q), true
}
