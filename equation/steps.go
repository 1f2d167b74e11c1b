package equation

import (
	"iter"
	"slices"

	"univocal/api"
)

// Steps returns the arrangement steps of an equation.
func Steps(e api.Equation) []api.Step {
	if !Valid(e) {
		return nil
	}
	s, ok := strip(e)
	if !ok {
		return nil
	}
	return slices.Collect(steps(s))
}

// steps enumerates the arrangement steps of a stripped equation, in new memory.
func steps(e api.Equation) iter.Seq[api.Step] {
	return func(yield func(api.Step) bool) {
		for _, s := range guesses(e) {
			replaced := api.Equation{L: replace(e.L, s), R: replace(e.R, s)}
			var ok bool
			if s.E, ok = strip(replaced); ok && !yield(s) {
				return
			}
		}
	}
}

// guesses returns the arrangement steps of a stripped equation without their equations, also those in which stripping fails.
func guesses(e api.Equation) []api.Step {
	switch {
	case solved(e):
		return nil
	case len(e.R) == 0:
		return []api.Step{{X: e.L[0].X}}
	case len(e.L) == 0:
		return []api.Step{{X: e.R[0].X}}
	}
	// One of the first items may be a byte, which is not replaced.
	var l []api.Step
	p, q := e.L[0], e.R[0]
	for _, s := range []api.Step{{X: p.X}, {X: q.X}, {X: p.X, Out: []api.Item{q, p}}, {X: q.X, Out: []api.Item{p, q}}} {
		if s.X >= 0 {
			l = append(l, s)
		}
	}
	return l
}

// solved reports whether both sides of an equation are empty.
func solved(e api.Equation) bool { return len(e.L) == 0 && len(e.R) == 0 }

// replace returns a term in which the variable of a step is replaced by its items.
func replace(t []api.Item, s api.Step) []api.Item {
	var l []api.Item
	for _, i := range t {
		if i.X == s.X {
			l = append(l, s.Out...)
		} else {
			l = append(l, i)
		}
	}
	return l
}
