package equation_test

import (
	"slices"

	"univocal/api"
)

// The functions of this file follow the definitions of the chapter word by word.

// valid follows the definition of a valid equation.
func valid(e api.Equation) bool {
	for _, side := range [][]api.Item{e.L, e.R} {
		if len(side) > 24 {
			return false
		}
		for _, i := range side {
			if i.X < -1 || i.X > 11 || i.X != -1 && i.B != 0 {
				return false
			}
		}
	}
	return true
}

// occurring returns the variables of an equation in the order of their first occurrences.
func occurring(e api.Equation) []int {
	var l []int
	for _, i := range slices.Concat(e.L, e.R) {
		if i.X != -1 && !slices.Contains(l, i.X) {
			l = append(l, i.X)
		}
	}
	return l
}

// word returns the word of a term under an assignment to its variables.
func word(t []api.Item, w [][]byte) string {
	text := ""
	for _, i := range t {
		if i.X == -1 {
			text += string([]byte{i.B})
		} else {
			text += string(w[i.X])
		}
	}
	return text
}

// solves reports whether an assignment is a solution of an equation.
func solves(e api.Equation, w [][]byte) bool {
	for _, x := range occurring(e) {
		if x >= len(w) {
			return false
		}
	}
	return word(e.L, w) == word(e.R, w)
}

// stripped returns what stripping leaves of an equation, and whether it does not fail.
func stripped(e api.Equation) (api.Equation, bool) {
	l, r := slices.Clone(e.L), slices.Clone(e.R)
	for len(l) > 0 && len(r) > 0 && l[0] == r[0] {
		l, r = slices.Delete(l, 0, 1), slices.Delete(r, 0, 1)
	}
	for len(l) > 0 && len(r) > 0 && l[len(l)-1] == r[len(r)-1] {
		l, r = slices.Delete(l, len(l)-1, len(l)), slices.Delete(r, len(r)-1, len(r))
	}
	s := api.Equation{L: l, R: r}
	if len(l) > 0 && len(r) > 0 {
		if l[0].X == -1 && r[0].X == -1 || l[len(l)-1].X == -1 && r[len(r)-1].X == -1 {
			return s, false
		}
		return s, true
	}
	for _, i := range slices.Concat(l, r) {
		if i.X == -1 {
			return s, false
		}
	}
	return s, true
}

// renumbered returns the canonical equation.
func renumbered(e api.Equation) api.Equation {
	order := occurring(e)
	c := clone(e)
	for _, side := range [][]api.Item{c.L, c.R} {
		for at := range side {
			if side[at].X != -1 {
				side[at].X = slices.Index(order, side[at].X)
			}
		}
	}
	return c
}

// arranged returns the arrangement steps of an equation.
func arranged(e api.Equation) []api.Step {
	var l []api.Step
	s, ok := stripped(e)
	if !ok {
		return nil
	}
	step := func(x api.Item, out ...api.Item) {
		var n api.Equation
		for _, i := range s.L {
			if i == x {
				n.L = append(n.L, out...)
			} else {
				n.L = append(n.L, i)
			}
		}
		for _, i := range s.R {
			if i == x {
				n.R = append(n.R, out...)
			} else {
				n.R = append(n.R, i)
			}
		}
		if n, ok := stripped(n); ok {
			l = append(l, api.Step{X: x.X, Out: slices.Clone(out), E: n})
		}
	}
	if len(s.L) == 0 && len(s.R) == 0 {
		return nil
	}
	if len(s.L) == 0 {
		step(s.R[0])
		return l
	}
	if len(s.R) == 0 {
		step(s.L[0])
		return l
	}
	p, q := s.L[0], s.R[0]
	switch {
	case p.X != -1 && q.X == -1:
		step(p)
		step(p, q, p)
	case p.X == -1 && q.X != -1:
		step(q)
		step(q, p, q)
	default:
		step(p)
		step(q)
		step(p, q, p)
		step(q, p, q)
	}
	return l
}

// listed reports whether a list contains an equation.
func listed(g []api.Equation, e api.Equation) bool {
	return slices.ContainsFunc(g, func(x api.Equation) bool { return same(x, e) })
}

// closed returns the graph of an equation, and false if it is too large.
func closed(e api.Equation) ([]api.Equation, bool) {
	s, ok := stripped(e)
	if !ok {
		return nil, true
	}
	g := []api.Equation{renumbered(s)}
	for at := 0; at < len(g); at++ {
		for _, step := range arranged(g[at]) {
			if c := renumbered(step.E); !listed(g, c) {
				g = append(g, c)
			}
		}
		for _, x := range g {
			if len(g) > 256 || len(x.L) > 24 || len(x.R) > 24 {
				return nil, false
			}
		}
	}
	return g, true
}

// isSolved reports whether an equation is solved.
func isSolved(e api.Equation) bool { return len(e.L) == 0 && len(e.R) == 0 }

// shown reports whether a list of equations shows that an equation has no solution.
func shown(e api.Equation, g []api.Equation) bool {
	if !valid(e) {
		return false
	}
	for _, x := range g {
		s, ok := stripped(x)
		if !valid(x) || !ok || !same(s, x) || !same(renumbered(x), x) || isSolved(x) {
			return false
		}
	}
	if s, ok := stripped(e); ok && !listed(g, renumbered(s)) {
		return false
	}
	for _, x := range g {
		for _, step := range arranged(x) {
			if !listed(g, renumbered(step.E)) {
				return false
			}
		}
	}
	return true
}

// shortlex returns the words of a scope.
func shortlex(s api.Scope) [][]byte {
	l := [][]byte{{}}
	for at := 0; at < len(l); at++ {
		if len(l[at]) < s.Most {
			for _, b := range s.Alphabet {
				l = append(l, append(slices.Clone(l[at]), b))
			}
		}
	}
	return l
}

// assigned returns all assignments of words to n variables in their order, and false if there are more than most.
func assigned(l [][]byte, n, most int) ([][][]byte, bool) {
	all := [][][]byte{{}}
	for range n {
		var next [][][]byte
		if len(all)*len(l) > most {
			return nil, false
		}
		for _, w := range all {
			for _, x := range l {
				next = append(next, append(slices.Clone(w), x))
			}
		}
		all = next
	}
	return all, true
}

// first returns the least solution of a valid equation among the assignments of a scope; enough is false if there are too
// many of them.
func first(e api.Equation, s api.Scope) (w [][]byte, found, enough bool) {
	n := 0
	for _, x := range occurring(e) {
		n = max(n, x+1)
	}
	all, enough := assigned(shortlex(s), n, 4096)
	for _, w := range all {
		if solves(e, w) {
			return w, true, true
		}
	}
	return nil, false, enough
}
