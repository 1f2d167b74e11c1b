package clause_test

import (
	"math/rand/v2"
	"slices"
	"testing"

	"univocal/api"
	"univocal/clause"
)

// starts returns lists of literals of which two have literals of the first model, if there is one.
func starts(r *rand.Rand, x task) [][]int {
	l := [][]int{nil, anyClause(r, x.n, 1), anyClause(r, x.n, 1+r.IntN(4)), plain(r, 16, r.IntN(5)), plain(r, x.n, r.IntN(x.n+1))}
	m, _ := first(x.f, x.n)
	for range 2 {
		var some []int
		for v, value := range m {
			if r.IntN(3) == 0 {
				some = append(some, (v+1)*(2*btoi(value)-1))
			}
		}
		l = append(l, some)
	}
	return l
}

// P12.1, P12.5, L2: propagation follows the definition, in whichever order.
func TestPropagateDefinition(t *testing.T) {
	all := short(2, 2)
	each(small(3), func(x task) {
		r := random(uint64(len(x.f)))
		for _, l := range all {
			out, ok := clause.Propagate(x.f, l)
			if want, enough := propagated(r, x.f, l); ok != enough || !slices.Equal(out, want) {
				t.Errorf("%s from %v: %v, %v, want %v, %v", text(x.f), l, out, ok, want, enough)
			}
		}
	})
	each(slices.Concat(samples(4, 3000, 8), samples(5, 300, 16)), func(x task) {
		r := random(uint64(x.n))
		for _, l := range starts(r, x) {
			out, ok := clause.Propagate(x.f, l)
			for range 3 {
				if want, enough := propagated(r, x.f, l); ok != enough || !slices.Equal(out, want) {
					t.Errorf("%s from %v: %v, %v, want %v, %v", text(x.f), l, out, ok, want, enough)
				}
			}
		}
	})
}

// consequent fails unless the models of a formula in which the literals of l are true have the consequences of l.
func consequent(t *testing.T, x task, l []int) {
	out, ok := clause.Propagate(x.f, l)
	n := 16
	if inside(l, x.n) {
		n = x.n
	} else if len(x.f) > 20 {
		return
	}
	for m := range models(x.f, n) {
		if fits := satisfies(unit(l), m); fits && (!ok || !satisfies(unit(out), m)) {
			t.Errorf("%s from %v: %v, %v, but there is the model %s", text(x.f), l, out, ok, letters(m))
		}
	}
	if again, still := clause.Propagate(x.f, out); ok && (!still || !slices.Equal(again, out)) {
		t.Errorf("%s from %v: %v, and from there %v, %v", text(x.f), l, out, again, still)
	}
}

// unit returns a clause for each literal.
func unit(l []int) [][]int {
	var f [][]int
	for _, x := range l {
		f = append(f, []int{x})
	}
	return f
}

// P12.5: consequences are true in all models, and have no further consequences.
func TestConsequences(t *testing.T) {
	each(small(3), func(x task) {
		for _, l := range short(2, 2) {
			consequent(t, x, l)
		}
	})
	each(samples(6, 3000, 7), func(x task) {
		r := random(uint64(x.n))
		for _, l := range starts(r, x) {
			if inside(l, x.n) || r.IntN(20) == 0 {
				consequent(t, x, l)
			}
		}
	})
}

// P12.5: more literals have more consequences, or lead to a conflict.
func TestMoreConsequences(t *testing.T) {
	each(samples(7, 4000, 16), func(x task) {
		r := random(uint64(x.n))
		for _, l := range starts(r, x) {
			out, ok := clause.Propagate(x.f, l)
			l = append(l, plain(r, 16, 1+r.IntN(3))...)
			more, still := clause.Propagate(x.f, l)
			if still && (!ok || slices.ContainsFunc(out, func(k int) bool { return !slices.Contains(more, k) })) {
				t.Errorf("%s from %v: %v, %v, but before %v, %v", text(x.f), l, more, still, out, ok)
			}
		}
	})
}

// P12.1, L1: models are what the definition says.
func TestHoldsDefinition(t *testing.T) {
	each(slices.Concat(small(3), samples(8, 2000, 8)), func(x task) {
		for m := range assignments(x.n) {
			if ok := clause.Holds(x.f, m); ok != satisfies(x.f, m) {
				t.Errorf("%s at %s: %v", text(x.f), letters(m), ok)
			}
		}
		for _, n := range []int{x.n - 1, x.n + 1, 17} {
			if m := make([]bool, max(n, 0)); clause.Holds(x.f, m) != (valid(x.f, len(m)) && satisfies(x.f, m)) {
				t.Errorf("%s at %s", text(x.f), letters(m))
			}
		}
	})
}

// agrees fails unless Solve returns the first model, or a refutation if there is none.
func agrees(t *testing.T, x task) {
	want := "none"
	if m, ok := first(x.f, x.n); ok {
		want = letters(m)
	}
	solved(t, x, want)
}

// P12.3, P12.4: all small formulas, and formulas of all sizes.
func TestSolveDefinition(t *testing.T) {
	each(slices.Concat(small(3), subsets(2)), func(x task) { agrees(t, x) })
	each(samples(9, 6000, 7), func(x task) { agrees(t, x) })
	each(samples(10, 400, 16), func(x task) { agrees(t, x) })
}

// P12.3: formulas whose refutations are long.
func TestSolveHard(t *testing.T) {
	each(hard(), func(x task) {
		agrees(t, x)
		_, p, _, _ := clause.Solve(x.f, x.n)
		for i := range x.f {
			if i%9 == 0 {
				fewer := slices.Delete(slices.Clone(x.f), i, i+1)
				if _, ok := first(fewer, x.n); ok && clause.Check(fewer, x.n, p) {
					t.Errorf("%s: %s is accepted", text(fewer), text(p))
				}
			}
		}
	})
}

// P12.4: formulas with models of which the first one is not found at once.
func TestSolveLate(t *testing.T) {
	for _, x := range hard() {
		r := random(uint64(len(x.f)))
		list, _, _ := clause.Core(x.f, x.n)
		for range 3 {
			fewer := choose(x.f, slices.DeleteFunc(slices.Clone(list), func(i int) bool { return i == list[r.IntN(len(list))] }))
			agrees(t, task{fewer, x.n})
		}
	}
}

// P12.1, P12.2, L4: lists of clauses are accepted where they are refutations, and then there is no model.
func TestCheckDefinition(t *testing.T) {
	compare := func(x task, p [][]int) {
		ok := clause.Check(x.f, x.n, p)
		if ok != refutes(x.f, x.n, p) {
			t.Errorf("Check(%s, %d, %s) is %v", text(x.f), x.n, text(p), ok)
		}
		if m, found := first(x.f, x.n); ok && found {
			t.Errorf("%s: %s is accepted, but there is the model %s", text(x.f), text(p), letters(m))
		}
	}
	lists := slices.Collect(tuples(short(2, 2), 2))
	each(subsets(2), func(x task) {
		for _, p := range lists {
			compare(x, p)
			compare(x, append(slices.Clone(p), nil))
		}
	})
	each(samples(11, 3000, 6), func(x task) {
		r := random(uint64(x.n))
		for range 10 {
			var p [][]int
			for range r.IntN(6) {
				p = append(p, plain(r, x.n, 1+r.IntN(3)))
			}
			compare(x, append(p, nil))
		}
	})
}

// P12.8: refutations are not accepted for formulas that have models, whichever of their literals is changed.
func TestIntegrity(t *testing.T) {
	l, proofs := refuted(t, 12, 200, 7)
	r := random(13)
	for k, x := range l {
		list, _, _ := clause.Core(x.f, x.n)
		for _, i := range list {
			fewer := choose(x.f, slices.DeleteFunc(slices.Clone(list), func(j int) bool { return j == i }))
			p := cloneAll(proofs[k])
			for range 20 {
				if clause.Check(fewer, x.n, p) {
					t.Errorf("%s: %s is accepted", text(fewer), text(p))
				}
				c := p[r.IntN(len(p))]
				if len(c) > 0 {
					c[r.IntN(len(c))] = literal(r, x.n)
				}
			}
		}
	}
}

// cored fails unless Core returns clauses without a model, each of which is necessary, by the definition.
func cored(t *testing.T, x task) {
	list, ok, err := clause.Core(x.f, x.n)
	want, none := core(x.f, x.n)
	if err != api.OK || ok != none || !slices.Equal(list, want) {
		t.Errorf("%s: %v, %v, %v, want %v, %v", text(x.f), list, ok, err, want, none)
	}
	if !ok {
		return
	}
	if m, found := first(choose(x.f, list), x.n); found {
		t.Errorf("%s: the core %v has the model %s", text(x.f), list, letters(m))
	}
	for i := range list {
		if _, found := first(choose(x.f, slices.Delete(slices.Clone(list), i, i+1)), x.n); !found {
			t.Errorf("%s: the core %v has no model without clause %d", text(x.f), list, list[i])
		}
	}
}

// P12.1, P12.6, L5: cores are what the definition says.
func TestCoreDefinition(t *testing.T) {
	each(slices.Concat(small(3), subsets(2), samples(14, 3000, 6)), func(x task) { cored(t, x) })
	var few []task
	for _, x := range hard() {
		if x.n < 10 {
			few = append(few, x)
		}
	}
	each(few, func(x task) { cored(t, x) })
}

// P12.6: cores of formulas with many variables have no models, and any clause of them is necessary.
func TestCoreHard(t *testing.T) {
	each(hard(), func(x task) {
		list, ok, err := clause.Core(x.f, x.n)
		if !ok || err != api.OK || !slices.IsSorted(list) {
			t.Errorf("%s: %v, %v, %v", text(x.f), list, ok, err)
		}
		agrees(t, task{choose(x.f, list), x.n})
		if _, _, ok, _ := clause.Solve(choose(x.f, list), x.n); ok {
			t.Errorf("%s: the core %v has a model", text(x.f), list)
		}
		for i := range list {
			if _, _, ok, _ := clause.Solve(choose(x.f, slices.Delete(slices.Clone(list), i, i+1)), x.n); !ok {
				t.Errorf("%s: the core %v has no model without clause %d", text(x.f), list, list[i])
			}
		}
	})
}

// P12.7: neither order nor repetitions change the model, nor does a clause that follows.
func TestOrder(t *testing.T) {
	each(slices.Concat(samples(15, 4000, 8), small(2), hard()[:4]), func(x task) {
		r := random(uint64(x.n))
		m, _, ok, _ := clause.Solve(x.f, x.n)
		unchanged := func(what string, f [][]int) {
			if other, _, still, err := clause.Solve(f, x.n); err != api.OK || still != ok || !slices.Equal(m, other) {
				t.Errorf("%s: %s, %v, but %s, %s, %v", text(x.f), letters(m), ok, what, letters(other), still)
			}
		}
		f := cloneAll(x.f)
		r.Shuffle(len(f), func(i, j int) { f[i], f[j] = f[j], f[i] })
		unchanged("in another order", f)
		for i, c := range f {
			r.Shuffle(len(c), func(i, j int) { c[i], c[j] = c[j], c[i] })
			if len(c) > 0 && len(c) < 8 {
				f[i] = append(c, c[r.IntN(len(c))])
			}
		}
		unchanged("with literals in another order", f)
		if len(f) > 0 && len(f) < 200 {
			unchanged("with a repeated clause", append(f, f[r.IntN(len(f))]))
		}
		for range 20 {
			c := plain(r, x.n, 1+r.IntN(4))
			if len(x.f) < 200 && x.n < 9 && follows(x, c) {
				unchanged("with a further clause", slices.Insert(cloneAll(x.f), r.IntN(len(x.f)+1), c))
			}
		}
	})
}

// follows reports whether a clause is true in all models of a formula.
func follows(x task, c []int) bool {
	for m := range models(x.f, x.n) {
		if !satisfies([][]int{c}, m) {
			return false
		}
	}
	return true
}

// P12.2, P12.7: the clauses of a refutation that follow do not change whether there is a model.
func TestRefutationsFollow(t *testing.T) {
	l, proofs := refuted(t, 16, 300, 8)
	for k, x := range l {
		for i, c := range proofs[k] {
			if len(c) <= 8 && len(x.f)+i < 200 {
				solved(t, task{append(cloneAll(x.f), proofs[k][:i+1]...), x.n}, "none")
			}
		}
	}
}
