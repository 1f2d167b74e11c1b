package equation

import (
	"iter"
	"slices"

	"univocal/api"
	"univocal/scope"
)

// Least returns the least solution in a scope.
func Least(e api.Equation, s api.Scope) ([][]byte, bool, api.Errno) {
	if !Valid(e) || !scope.Valid(s) {
		return nil, false, api.ErrArg
	}
	n, size := variables(e), 1
	for range n {
		size *= scope.Size(s)
		if size > api.MaxWords {
			return nil, false, api.ErrBig
		}
	}
	for w := range assignments(slices.Collect(scope.Words(s)), n) {
		if equal(e, w) {
			for i := range w {
				w[i] = slices.Clone(w[i])
			}
			return w, true, api.OK
		}
	}
	return nil, false, api.OK
}

// assignments enumerates the assignments of words to n variables in an order in which the first variables change last. The
// next assignment takes the place of the one before.
func assignments(words [][]byte, n int) iter.Seq[[][]byte] {
	return func(yield func([][]byte) bool) {
		var extend func(w [][]byte) bool
		extend = func(w [][]byte) bool {
			if len(w) == n {
				return yield(w)
			}
			for _, x := range words {
				if !extend(append(w, x)) {
					return false
				}
			}
			return true
		}
		extend(make([][]byte, 0, n))
	}
}
