package clause

// A set of literals has at the index of each variable its literal that is an element, or 0 if there is none. It has no room
// for a literal together with its negation, since propagation ends when they meet.
type set [maxVariables]int

// Propagate returns the consequences of literals by unit propagation.
func Propagate(f [][]int, l []int) ([]int, bool) {
	if !Valid(f, maxVariables) || !within(l, maxVariables) {
		return nil, false
	}
	s, ok := propagate(f, l)
	if !ok {
		return nil, false
	}
	var list []int
	for _, x := range s {
		if x != 0 {
			list = append(list, x)
		}
	}
	return list, true
}

// propagate returns the set in which unit propagation ends, starting from a list of literals. It returns false if it ends in a
// conflict.
func propagate(clauses [][]int, start []int) (set, bool) {
	var s set
	// The value of a literal is positive if it is an element of s, and negative if its negation is one.
	value := func(l int) int { return s[variable(l)] * l }
	for _, l := range start {
		if value(l) < 0 {
			return set{}, false
		}
		s[variable(l)] = l
	}
	for changed := true; changed; {
		changed = false
	scan:
		for _, c := range clauses {
			open := 0
			for _, l := range c {
				switch v := value(l); {
				case v > 0, v == 0 && open != 0 && open != l:
					continue scan
				case v == 0:
					open = l
				}
			}
			if open == 0 {
				return set{}, false
			}
			s[variable(open)] = open
			changed = true
		}
	}
	return s, true
}

// negations returns the negations of the literals of a list.
func negations(list []int) []int {
	var out []int
	for _, l := range list {
		out = append(out, -l)
	}
	return out
}
