package numeral

import (
	"strings"

	"univocal/api"
	"univocal/class"
)

// The digits of base 16 by their values; the first ten are those of base 10.
const (
	lower = "0123456789abcdef"
	upper = "0123456789ABCDEF"
)

// digit returns the value of a digit of a base, and -1 for other bytes.
func digit(base int, x byte) int {
	return max(strings.IndexByte(lower[:base], x), strings.IndexByte(upper[:base], x))
}

// digits returns the classes of the digits of a base that have the same value.
func digits(base int) []api.Class {
	var l []api.Class
	for v := range base {
		l = append(l, class.Of([]byte{lower[v], upper[v]}))
	}
	return l
}

// A state is what a rule has to know of the bytes before the next one: the number of digits and the value, which is 0 if
// there is none. Numerals that are too large count as Digits + 1 digits, since no further digit makes them fit, and byte
// slices with which nothing that has a value begins as -1.
type state struct{ digits, value int }

// reader returns the function that leads from a state of a valid rule by the value of a digit, or by -1 for other bytes.
func reader(r api.Rule) func(s state, d int) state {
	dead := state{digits: -1}
	return func(s state, d int) state {
		zero := s == state{digits: 1, value: 0}
		if s == dead || d < 0 || zero && !r.Zeros {
			return dead
		}
		number := s.value*r.Base + d
		if s.digits < r.Digits && number <= r.Top {
			return state{s.digits + 1, number}
		}
		switch r.Over {
		case api.OverSaturate:
			// Top remains Top modulo Top + 1.
			number = r.Top
			fallthrough
		case api.OverWrap:
			return state{r.Digits + 1, number % (r.Top + 1)}
		default:
			return dead
		}
	}
}
