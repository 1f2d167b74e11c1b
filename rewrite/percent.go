package rewrite

import (
	"strings"

	"univocal/api"
)

// digits are the hex digits; those from index 16 on have the values of the six before them.
const digits = "0123456789abcdefABCDEF"

// value returns the value of a hex digit, and -1 for other bytes.
func value(x byte) int {
	i := strings.IndexByte(digits, x)
	if i >= 16 {
		i -= 6
	}
	return i
}

// sequence returns the byte of the percent sequence at the beginning of b; false if there is none.
func sequence(b []byte) (byte, bool) {
	if len(b) < 3 || b[0] != '%' || value(b[1]) < 0 || value(b[2]) < 0 {
		return 0, false
	}
	return byte(16*value(b[1]) + value(b[2])), true
}

// percent returns the kind that decodes percent sequences.
func percent(d decoder) kind {
	return kind{
		do:      func(_ api.Op, b []byte) ([]byte, bool) { return d.decode(b) },
		machine: func(api.Op) api.Transducer { return d.machine() },
	}
}

// A decoder decodes percent sequences; if it is lax, it leaves a byte 37 that does not begin one as it is.
type decoder struct{ lax bool }

// decode returns b without its percent sequences; false if it is rejected.
func (d decoder) decode(b []byte) ([]byte, bool) {
	var out []byte
	for len(b) > 0 {
		x, ok := sequence(b)
		switch {
		case ok:
			b = b[3:]
		case b[0] == '%' && !d.lax:
			return nil, false
		default:
			x, b = b[0], b[1:]
		}
		out = append(out, x)
	}
	return out, true
}

// machine returns the transducer of the decoder. Its states are beginnings of percent sequences, which are held back until
// their byte is known: nothing in state 0, the byte 37 in state 1, and the byte 37 and a digit in the others.
func (d decoder) machine() api.Transducer {
	states := []state{d.holding(""), d.holding("%")}
	for _, x := range []byte(digits) {
		if d.number(x) == len(states) {
			states = append(states, d.holding("%"+string(rune(x))))
		}
	}
	return assemble(singles([]byte("%"+digits)...), states...)
}

// number returns the number of the state in which the byte 37 and a digit are held back. A lax decoder may have to write
// the digit, so that the same value is not enough for the same state.
func (d decoder) number(digit byte) int {
	if d.lax {
		return 2 + strings.IndexByte(digits, digit)
	}
	return 2 + value(digit)
}

// holding returns the state in which the beginning of a percent sequence is held back.
func (d decoder) holding(held string) state {
	s := state{move: func(x byte) api.Move { return d.move(held, x) }, final: held == "" || d.lax}
	if s.final {
		s.end = []byte(held)
	}
	return s
}

// move returns the move for x while the beginning of a percent sequence is held back.
func (d decoder) move(held string, x byte) api.Move {
	if y, ok := sequence(append([]byte(held), x)); ok {
		return to(0, written(y)...)
	}
	switch {
	case held == "%" && value(x) >= 0:
		return to(d.number(x))
	case held != "" && !d.lax:
		return to(-1)
	case x == '%':
		return to(1, written([]byte(held)...)...)
	}
	return pass(0, []byte(held)...)
}
