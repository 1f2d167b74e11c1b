package transducer

import (
	"iter"
	"math/bits"
	"slices"

	"univocal/api"
	"univocal/automaton"
	"univocal/machine"
)

// Image returns the automaton of the outputs for a language.
func Image(t api.Transducer, d api.DFA) (api.DFA, api.Errno) {
	if !Valid(t) || !automaton.Valid(d) {
		return api.DFA{}, api.ErrArg
	}
	// The canonical automaton has no more states than d.
	d, _ = automaton.Canon(d)
	m, ok := newOutputs(t, d).subsets()
	if !ok {
		return api.DFA{}, api.ErrBig
	}
	return machine.Walk(m).Canonical()
}

// A part of a set is a node with the states of d, which are bits.
type part struct {
	node   int
	states uint64
}

// subsets returns the automaton of the subset construction, or false if it has too many states.
func (o *outputs) subsets() (api.DFA, bool) {
	m := api.DFA{Classes: o.cells}
	number := map[string]int{}
	var explore func(set string) int
	explore = func(set string) int {
		k, known := number[set]
		if known {
			return k
		}
		k = len(number)
		number[set] = k
		row := make([]int, len(o.cells))
		m.Next = append(m.Next, row)
		m.Accept = append(m.Accept, o.final(set))
		for c := 0; c < len(row) && len(number) <= api.MaxSubsets; c++ {
			row[c] = explore(o.read(set, c))
		}
		return k
	}
	explore(o.closed([]part{{0, 1}}))
	return m, len(number) <= api.MaxSubsets
}

// final reports whether a set contains the accepting state.
func (o *outputs) final(set string) bool {
	for x := range parts(set) {
		if x.node == o.done() {
			return true
		}
	}
	return false
}

// read returns the set to which a set leads by the cell c.
func (o *outputs) read(set string, c int) string {
	var to []part
	for x := range parts(set) {
		if child, ok := o.nodes[x.node].next[c]; ok {
			to = append(to, part{child, x.states})
		}
	}
	return o.closed(to)
}

// closed returns the set of what is reached from some parts without reading. A node waits in a queue until all states that
// have reached it meanwhile can go on together.
func (o *outputs) closed(from []part) string {
	var queue, reached []int
	add := func(k int, states uint64) {
		n := &o.nodes[k]
		states &^= n.found
		if n.waiting == 0 && states != 0 {
			queue = append(queue, k)
		}
		n.waiting |= states
	}
	for _, x := range from {
		add(x.node, x.states)
	}
	for ; len(queue) > 0; queue = queue[1:] {
		k := queue[0]
		n := &o.nodes[k]
		if n.found == 0 {
			reached = append(reached, k)
		}
		states := n.waiting
		n.found, n.waiting = n.found|states, 0
		for _, to := range n.to {
			add(to.node, o.after(states, to.column))
		}
		if k < len(o.t.Moves) {
			add(len(o.t.Moves)+k, states&o.accepting)
		}
	}
	return o.packed(reached)
}

// after returns the states of d that follow others when an output has ended.
func (o *outputs) after(states uint64, column int) uint64 {
	if column == atEnd {
		return 1
	}
	var to uint64
	for ; states != 0; states &= states - 1 {
		to |= 1 << o.d.Next[bits.TrailingZeros64(states)][column]
	}
	return to
}

// packed returns what has been found at some nodes as a string, and forgets it: each part has three bytes for the node and
// eight for the states. Nodes at which all outputs have ended are left out, because they are no states: the last byte of an
// output leads to its target.
func (o *outputs) packed(reached []int) string {
	slices.Sort(reached)
	var b []byte
	for _, k := range reached {
		n := &o.nodes[k]
		if k < len(o.t.Moves) || k == o.done() || len(n.next) > 0 {
			b = append(b, byte(k>>16), byte(k>>8), byte(k))
			for shift := 56; shift >= 0; shift -= 8 {
				b = append(b, byte(n.found>>shift))
			}
		}
		n.found = 0
	}
	return string(b)
}

// parts enumerates the parts of a set.
func parts(set string) iter.Seq[part] {
	return func(yield func(part) bool) {
		for ; set != ""; set = set[11:] {
			x := part{node: int(set[0])<<16 + int(set[1])<<8 + int(set[2])}
			for _, b := range []byte(set[3:11]) {
				x.states = x.states<<8 + uint64(b)
			}
			if !yield(x) {
				return
			}
		}
	}
}
