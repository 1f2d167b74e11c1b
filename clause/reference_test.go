package clause_test

import (
	"iter"
	"math/rand/v2"
	"slices"
)

// valid follows the chapter's definition of a valid formula.
func valid(f [][]int, n int) bool {
	ok := 0 <= n && n <= 16 && len(f) <= 200
	for _, c := range f {
		ok = ok && len(c) <= 8 && inside(c, n)
	}
	return ok
}

// inside reports whether all literals of a list are within n.
func inside(list []int, n int) bool {
	for _, l := range list {
		if !(1 <= l && l <= n || -n <= l && l <= -1) {
			return false
		}
	}
	return true
}

// satisfies reports whether an assignment is a model of a valid formula.
func satisfies(f [][]int, m []bool) bool {
	for _, c := range f {
		some := false
		for _, l := range c {
			some = some || l > 0 && m[l-1] || l < 0 && !m[-l-1]
		}
		if !some {
			return false
		}
	}
	return true
}

// assignments enumerates the assignments of n variables in their order.
func assignments(n int) iter.Seq[[]bool] {
	return func(yield func([]bool) bool) {
		for k := range 1 << n {
			m := make([]bool, n)
			for v := range n {
				m[v] = k>>(n-1-v)&1 == 1
			}
			if !yield(m) {
				return
			}
		}
	}
}

// models enumerates the models of a valid formula of n variables in their order.
func models(f [][]int, n int) iter.Seq[[]bool] {
	return func(yield func([]bool) bool) {
		for m := range assignments(n) {
			if satisfies(f, m) && !yield(m) {
				return
			}
		}
	}
}

// first returns the first model of a formula of n variables, and whether there is one.
func first(f [][]int, n int) ([]bool, bool) {
	for m := range models(f, n) {
		return m, true
	}
	return nil, false
}

// addable returns the literals that unit propagation adds to a set.
func addable(f [][]int, set map[int]bool) []int {
	var list []int
	for _, c := range f {
		for _, l := range c {
			others := true
			for _, k := range c {
				others = others && (k == l || set[-k])
			}
			if others && !slices.ContainsFunc(c, func(k int) bool { return set[k] }) {
				list = append(list, l)
			}
		}
	}
	return list
}

// clash reports whether a set of literals is a conflict.
func clash(f [][]int, set map[int]bool) bool {
	for l := range set {
		if set[-l] {
			return true
		}
	}
	return slices.ContainsFunc(f, func(c []int) bool {
		for _, l := range c {
			if !set[-l] {
				return false
			}
		}
		return true
	})
}

// propagated follows the chapter's definition of unit propagation, in the order that r chooses.
func propagated(r *rand.Rand, f [][]int, l []int) ([]int, bool) {
	set := map[int]bool{}
	for _, x := range l {
		set[x] = true
	}
	for !clash(f, set) {
		list := addable(f, set)
		if len(list) == 0 {
			var out []int
			for v := 1; v <= 16; v++ {
				for _, x := range []int{v, -v} {
					if set[x] {
						out = append(out, x)
					}
				}
			}
			return out, true
		}
		set[list[r.IntN(len(list))]] = true
	}
	return nil, false
}

// refutes follows the chapter's definition of a refutation that is accepted.
func refutes(f [][]int, n int, p [][]int) bool {
	if !valid(f, n) || len(p) == 0 || len(p[len(p)-1]) != 0 {
		return false
	}
	all := slices.Clone(f)
	for _, c := range p {
		if len(c) > 16 || !inside(c, n) {
			return false
		}
		var start []int
		for _, l := range c {
			start = append(start, -l)
		}
		if _, ok := propagated(random(0), all, start); ok {
			return false
		}
		all = append(all, c)
	}
	return true
}

// core follows the chapter's definition of the core of a valid formula.
func core(f [][]int, n int) ([]int, bool) {
	if _, ok := first(f, n); ok {
		return nil, false
	}
	removed := map[int]bool{}
	list := func() []int {
		var l []int
		for i := range f {
			if !removed[i] {
				l = append(l, i)
			}
		}
		return l
	}
	for i := len(f) - 1; i >= 0; i-- {
		removed[i] = true
		if _, ok := first(choose(f, list()), n); ok {
			removed[i] = false
		}
	}
	return list(), true
}

// choose returns the clauses with the given indices.
func choose(f [][]int, indices []int) [][]int {
	var l [][]int
	for _, i := range indices {
		l = append(l, f[i])
	}
	return l
}
