package transducer

import (
	"slices"

	"univocal/api"
	"univocal/class"
)

// Outputs are a tree for each state of t, of what it writes for a byte, and one for its end. The root of state p is node p,
// that of its end node len(Moves) + p; the accepting state is node 2 * len(Moves).
//
// A state of the nondeterministic automaton of the chapter is a node and a state of d. The states inside of the outputs for
// different bytes are one node if the same bytes have been written so far, because a set contains either all of them or
// none; so there is a set of nodes with states of d for each set of states.
type outputs struct {
	t         api.Transducer
	d         api.DFA
	accepting uint64
	cells     []api.Class
	nodes     []node
}

// A node has a child for each cell by which outputs go on, and the targets of the outputs that end there. While a set is
// computed, the node has the states of d that have been found there, and those that wait.
type node struct {
	next           map[int]int
	to             []target
	found, waiting uint64
}

// A target is the root of a state of t or the accepting state; states of d go to their targets by the class with the index
// column, or, for the accepting state, where they do not matter any more, to 0.
type target struct{ node, column int }

const atEnd = -1

func newOutputs(t api.Transducer, d api.DFA) *outputs {
	o := &outputs{t: t, d: d, cells: cells(t, d)}
	o.nodes = make([]node, o.done()+1)
	for q, accepting := range d.Accept {
		if accepting {
			o.accepting |= 1 << q
		}
	}
	for p, row := range t.Moves {
		for _, cell := range o.cells {
			x := byte(class.Least(cell))
			if m := row[class.Index(t.Classes, x)]; m.To >= 0 {
				o.insert(p, written(m, x), target{m.To, class.Index(d.Classes, x)})
			}
		}
		if t.Final[p] {
			o.insert(len(t.Moves)+p, t.Ends[p], target{o.done(), atEnd})
		}
	}
	return o
}

// cells returns a partition of all bytes such that the sets that are reached by the bytes of a cell are the same: neither t
// nor d tells these bytes apart, and if one of them is copied, it is the last byte of an output, after which it is forgotten.
func cells(t api.Transducer, d api.DFA) []api.Class {
	var alone api.Class
	for p, row := range t.Moves {
		alone = class.Union(alone, class.Of(t.Ends[p]))
		for c, m := range row {
			for i, x := range m.Out {
				if !x.Copy {
					alone = class.Union(alone, class.Of([]byte{x.B}))
				} else if i < len(m.Out)-1 {
					alone = class.Union(alone, t.Classes[c])
				}
			}
		}
	}
	l := slices.Concat(t.Classes, d.Classes)
	for _, x := range class.Bytes(alone) {
		l = append(l, class.Of([]byte{x}))
	}
	return class.Cells(l)
}

// done returns the node of the accepting state.
func (o *outputs) done() int { return 2 * len(o.t.Moves) }

// insert adds an output to the tree with a root.
func (o *outputs) insert(root int, out []byte, to target) {
	k := root
	for _, x := range out {
		c := class.Index(o.cells, x)
		child, known := o.nodes[k].next[c]
		if !known {
			child = len(o.nodes)
			o.nodes = append(o.nodes, node{})
			if o.nodes[k].next == nil {
				o.nodes[k].next = map[int]int{}
			}
			o.nodes[k].next[c] = child
		}
		k = child
	}
	if !slices.Contains(o.nodes[k].to, to) {
		o.nodes[k].to = append(o.nodes[k].to, to)
	}
}
