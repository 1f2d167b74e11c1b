package rewrite

import (
	"bytes"

	"univocal/api"
	"univocal/class"
)

// A state is a state of a transducer: its move for a byte, whether it is final, and what it writes at the end.
type state struct {
	move  func(x byte) api.Move
	final bool
	end   []byte
}

// assemble returns the transducer of some states, in which no move tells two bytes apart that are in the same classes.
func assemble(classes []api.Class, states ...state) api.Transducer {
	t := api.Transducer{Classes: class.Cells(classes)}
	for _, s := range states {
		var row []api.Move
		for _, c := range t.Classes {
			row = append(row, s.move(byte(class.Least(c))))
		}
		t.Moves = append(t.Moves, row)
		t.Final = append(t.Final, s.final)
		t.Ends = append(t.Ends, bytes.Clone(s.end))
	}
	return t
}

// singles returns the classes of one byte each.
func singles(b ...byte) []api.Class {
	var l []api.Class
	for _, x := range b {
		l = append(l, class.Of([]byte{x}))
	}
	return l
}

// to returns a move to a state.
func to(p int, out ...api.Piece) api.Move { return api.Move{To: p, Out: out} }

// pass returns a move to a state that writes some bytes, and then the byte that is read.
func pass(p int, before ...byte) api.Move {
	return to(p, append(written(before...), api.Piece{Copy: true})...)
}

// written returns the pieces of some bytes.
func written(b ...byte) []api.Piece {
	var out []api.Piece
	for _, x := range b {
		out = append(out, api.Piece{B: x})
	}
	return out
}
