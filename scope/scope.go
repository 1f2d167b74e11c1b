// Package scope checks scopes and enumerates their words. The layers that go through the words of a scope share it.
package scope

import (
	"iter"
	"slices"

	"univocal/api"
)

// Check returns ErrArg if s is not valid, and ErrBig if it has more than MaxWords words.
func Check(s api.Scope) api.Errno {
	if !Valid(s) {
		return api.ErrArg
	}
	if Size(s) > api.MaxWords {
		return api.ErrBig
	}
	return api.OK
}

// Size returns the number of words of a valid scope.
func Size(s api.Scope) int {
	words, longest := 1, 1
	for range s.Most {
		longest *= len(s.Alphabet)
		words += longest
	}
	return words
}

// Valid reports whether a scope is valid.
func Valid(s api.Scope) bool {
	if len(s.Alphabet) < 1 || len(s.Alphabet) > api.MaxAlphabet || s.Most < 0 || s.Most > api.MaxLen {
		return false
	}
	for i, x := range s.Alphabet[1:] {
		if x <= s.Alphabet[i] {
			return false
		}
	}
	return true
}

// Words enumerates the words of a valid scope in shortlex order. Each word is new memory.
func Words(s api.Scope) iter.Seq[[]byte] {
	return func(yield func([]byte) bool) {
		for queue := [][]byte{nil}; len(queue) > 0; queue = queue[1:] {
			w := queue[0]
			if len(w) < s.Most {
				for _, x := range s.Alphabet {
					queue = append(queue, append(slices.Clip(w), x))
				}
			}
			if !yield(w) {
				return
			}
		}
	}
}
