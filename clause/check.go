package clause

import "slices"

// Check checks a refutation.
func Check(f [][]int, n int, p [][]int) bool {
	if !Valid(f, n) || len(p) == 0 || len(p[len(p)-1]) > 0 {
		return false
	}
	clauses := slices.Concat(f, p)
	for i, c := range p {
		if len(c) > maxVariables || !within(c, n) || !conflicting(clauses[:len(f)+i], negations(c)) {
			return false
		}
	}
	return true
}

// conflicting reports whether unit propagation from a list of literals ends in a conflict.
func conflicting(clauses [][]int, start []int) bool {
	_, ok := propagate(clauses, start)
	return !ok
}
