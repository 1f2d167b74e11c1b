package transducer

import (
	"slices"

	"univocal/api"
	"univocal/class"
)

// Compose returns a transducer that applies t and then u.
func Compose(t, u api.Transducer) (api.Transducer, api.Errno) {
	if !Valid(t) || !Valid(u) {
		return api.Transducer{}, api.ErrArg
	}
	c := chain{t, u}
	r := api.Transducer{Classes: class.Cells(slices.Concat(t.Classes, u.Classes))}
	states := []pair{{0, 0}}
	for i := 0; i < len(states); i++ {
		var row []api.Move
		for _, cell := range r.Classes {
			out, to, ok := c.move(states[i], byte(class.Least(cell)))
			if !ok {
				row = append(row, api.Move{To: -1})
				continue
			}
			k := slices.Index(states, to)
			if k < 0 {
				k = len(states)
				states = append(states, to)
			}
			row = append(row, api.Move{To: k, Out: out})
		}
		end, final := c.end(states[i])
		if len(states) > api.MaxStates || len(end) > api.MaxOut || slices.ContainsFunc(row, long) {
			return api.Transducer{}, api.ErrBig
		}
		r.Moves = append(r.Moves, row)
		r.Final = append(r.Final, final)
		r.Ends = append(r.Ends, end)
	}
	return r, api.OK
}

// long reports whether a move writes too much.
func long(m api.Move) bool { return len(m.Out) > api.MaxOut }

// A chain is a transducer whose output another one reads; its states are pairs of theirs.
type chain struct{ first, second api.Transducer }

// move returns what the second transducer writes while it reads what the first one writes for x, and the states that are
// reached. Copies stay, as they do for all bytes that neither transducer tells apart from x.
func (c chain) move(s pair, x byte) ([]api.Piece, pair, bool) {
	m := c.first.Moves[s.p][class.Index(c.first.Classes, x)]
	if m.To < 0 {
		return nil, pair{}, false
	}
	var out []api.Piece
	for i, b := range written(m, x) {
		next := c.second.Moves[s.q][class.Index(c.second.Classes, b)]
		if next.To < 0 {
			return nil, pair{}, false
		}
		for _, y := range next.Out {
			if y.Copy {
				// A copy of a copy copies what the first transducer reads.
				y = m.Out[i]
			}
			out = append(out, y)
		}
		s.q = next.To
	}
	return out, pair{m.To, s.q}, true
}

// end returns what the second transducer writes at the end; false if a state is not final.
func (c chain) end(s pair) ([]byte, bool) {
	if !c.first.Final[s.p] {
		return nil, false
	}
	return output(c.second, s.q, c.first.Ends[s.p])
}
