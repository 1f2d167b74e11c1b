package equation

import (
	"slices"

	"univocal/api"
)

// Strip removes equal items at both ends.
func Strip(e api.Equation) (api.Equation, bool) {
	if !Valid(e) {
		return api.Equation{}, false
	}
	s, ok := strip(e)
	if !ok {
		return api.Equation{}, false
	}
	return api.Equation{L: slices.Clone(s.L), R: slices.Clone(s.R)}, true
}

// strip removes equal items at both ends, and reports whether stripping does not fail. What is left is a part of e, which may
// be longer than a valid equation.
func strip(e api.Equation) (api.Equation, bool) {
	l, r := e.L, e.R
	for len(l) > 0 && len(r) > 0 && l[0] == r[0] {
		l, r = l[1:], r[1:]
	}
	for len(l) > 0 && len(r) > 0 && l[len(l)-1] == r[len(r)-1] {
		l, r = l[:len(l)-1], r[:len(r)-1]
	}
	return api.Equation{L: l, R: r}, !clash(l, r)
}

// clash reports whether the ends of two terms, which have no equal items there, show that their words always differ.
func clash(l, r []api.Item) bool {
	if len(l) == 0 || len(r) == 0 {
		return slices.ContainsFunc(l, isByte) || slices.ContainsFunc(r, isByte)
	}
	return isByte(l[0]) && isByte(r[0]) || isByte(l[len(l)-1]) && isByte(r[len(r)-1])
}

// Canon renumbers the variables in the order of their occurrence.
func Canon(e api.Equation) api.Equation {
	if !Valid(e) {
		return api.Equation{}
	}
	return canon(e)
}

// canon returns the canonical equation of e, which may be longer than a valid equation, in new memory.
func canon(e api.Equation) api.Equation {
	numbers := map[int]int{}
	rename := func(t []api.Item) []api.Item {
		t = slices.Clone(t)
		for at, i := range t {
			if isByte(i) {
				continue
			}
			n, seen := numbers[i.X]
			if !seen {
				n = len(numbers)
				numbers[i.X] = n
			}
			t[at].X = n
		}
		return t
	}
	l := rename(e.L)
	return api.Equation{L: l, R: rename(e.R)}
}
