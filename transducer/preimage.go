package transducer

import (
	"slices"

	"univocal/api"
	"univocal/automaton"
	"univocal/class"
	"univocal/machine"
)

// Domain returns the automaton of the accepted words.
func Domain(t api.Transducer) (api.DFA, api.Errno) {
	every := api.DFA{Classes: []api.Class{class.Range(0, 255)}, Next: [][]int{{0}}, Accept: []bool{true}}
	return Preimage(t, every)
}

// Preimage returns the automaton of the words whose output is in a language.
func Preimage(t api.Transducer, d api.DFA) (api.DFA, api.Errno) {
	if !Valid(t) || !automaton.Valid(d) {
		return api.DFA{}, api.ErrArg
	}
	cells := class.Cells(slices.Concat(t.Classes, d.Classes))
	read := reader(d)
	dead := pair{-1, -1}
	step := func(s pair, c int) pair {
		if s == dead {
			return dead
		}
		// The classes of t and d do not tell the bytes of a cell apart, so that it does not matter which of them is copied.
		x := byte(class.Least(cells[c]))
		m := t.Moves[s.p][class.Index(t.Classes, x)]
		if m.To < 0 {
			return dead
		}
		return pair{m.To, read(s.q, written(m, x))}
	}
	accept := func(s pair) bool {
		return s != dead && t.Final[s.p] && d.Accept[read(s.q, t.Ends[s.p])]
	}
	// The limit is that of all pairs and the dead state.
	m, _ := machine.Explore(cells, pair{0, 0}, step, accept, api.MaxStates*api.MaxStates+1)
	return m.Canonical()
}

// reader returns the function that finds the state of d to which a word leads.
func reader(d api.DFA) func(q int, w []byte) int {
	column := columns(d.Classes)
	return func(q int, w []byte) int {
		for _, x := range w {
			q = d.Next[q][column[x]]
		}
		return q
	}
}

// columns returns the index of the class of each byte.
func columns(classes []api.Class) [256]int {
	var l [256]int
	for b := range l {
		l[b] = class.Index(classes, byte(b))
	}
	return l
}
