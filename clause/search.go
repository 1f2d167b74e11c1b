package clause

import "slices"

// search returns the least model of a valid formula of n variables, or a refutation.
//
// A branch is a list of decisions, each of which is the negation of the first variable that propagation from those before it
// leaves open. So a variable that is true at the end is true in all models in which the variables before it have the same
// values, and no model precedes the first one that is found. Where a branch ends in a conflict, a new clause says that one of
// the decisions that cause it has to be wrong, so that they are never taken together again.
func search(f [][]int, n int) ([]bool, [][]int, bool) {
	clauses := slices.Clone(f)
	var p [][]int
	var branch []int
	for {
		s, ok := propagate(clauses, branch)
		if !ok {
			causes := cause(clauses, branch)
			c := negations(causes)
			clauses, p = append(clauses, c), append(p, c)
			if len(c) == 0 {
				return nil, p, false
			}
			branch = branch[:slices.Index(branch, causes[len(causes)-1])]
			continue
		}
		v := slices.Index(s[:n], 0)
		if v < 0 {
			return values(s[:n]), nil, true
		}
		k := len(branch)
		branch = append(branch[:k:k], -(v + 1))
	}
}

// cause returns decisions of a branch that ends in a conflict: they lead to a conflict alone, but not without any one of them.
func cause(clauses [][]int, branch []int) []int {
	for i := len(branch) - 1; i >= 0; i-- {
		fewer := append(branch[:i:i], branch[i+1:]...)
		if conflicting(clauses, fewer) {
			branch = fewer
		}
	}
	return branch
}

// values returns the assignment that makes the literals of a list true, which has one for each variable, in their order.
func values(list []int) []bool {
	var m []bool
	for _, l := range list {
		m = append(m, l > 0)
	}
	return m
}
