package equation_test

import (
	"bytes"
	"math/rand/v2"
	"slices"
	"testing"

	"univocal/api"
	"univocal/equation"
)

// defined fails unless the functions of the package do what the definitions say about a valid equation.
func defined(t *testing.T, e api.Equation) {
	s, ok := stripped(e)
	if !ok {
		s = api.Equation{}
	}
	if x, done := equation.Strip(e); done != ok || !same(x, s) {
		t.Errorf("%s is stripped to %s, %v", text(e), text(x), done)
	}
	if x := equation.Canon(e); !equation.Valid(e) || !same(x, renumbered(e)) {
		t.Errorf("%s is canonically %s", text(e), text(x))
	}
	if l := equation.Steps(e); !sameSteps(l, arranged(e)) {
		t.Errorf("%s: the steps are %q", text(e), stepTexts(l))
	}
	want, enough := closed(e)
	g, ok, err := equation.Graph(e)
	if !sameAll(g, want) || ok != slices.ContainsFunc(want, isSolved) || enough != (err == api.OK) || !enough && err != api.ErrBig {
		t.Errorf("%s: %q, %v, %v", text(e), texts(g), ok, err)
	}
}

// P11.1: all equations with short sides, and equations of all sizes, follow the definitions.
func TestDefinitions(t *testing.T) {
	each(slices.Collect(small("XYab", 3)), func(e api.Equation) { defined(t, e) })
	each(slices.Collect(small("YXa", 4)), func(e api.Equation) { defined(t, e) })
	each(samples(1, 6000), func(e api.Equation) { defined(t, e) })
}

// pairs are all assignments of the words of at most three bytes a and b to two variables.
func pairs() [][][]byte {
	l, _ := assigned(shortlex(inScope("ab", 3)), 2, 1000)
	return l
}

// P11.1, K1: assignments hold where both words are equal.
func TestHoldsSmall(t *testing.T) {
	all := pairs()
	each(slices.Collect(small("XYab", 3)), func(e api.Equation) {
		for _, w := range all {
			if ok := equation.Holds(e, w); ok != solves(e, w) {
				t.Errorf("%s at %q: %v", text(e), w, ok)
			}
		}
	})
}

// P11.2: stripping leaves the solutions as they are.
func TestStrippedSolutions(t *testing.T) {
	all := pairs()
	each(slices.Collect(small("XYab", 3)), func(e api.Equation) {
		s, ok := equation.Strip(e)
		for _, w := range all {
			if equation.Holds(e, w) != (ok && equation.Holds(s, w)) {
				t.Errorf("%s and %s, %v, at %q", text(e), text(s), ok, w)
			}
		}
		if x, done := equation.Strip(s); ok && (!done || !same(x, s)) {
			t.Errorf("%s is stripped to %s, and this to %s, %v", text(e), text(s), text(x), done)
		}
	})
}

// before returns the solution of the equation of a step from which the solution w arises, if its word for the variable of the
// step begins with that of the other item.
func before(s api.Step, w [][]byte) ([][]byte, bool) {
	if len(s.Out) == 0 {
		return w, len(w[s.X]) == 0
	}
	rest, ok := bytes.CutPrefix(w[s.X], []byte(word(s.Out[:1], w)))
	w = slices.Clone(w)
	w[s.X] = rest
	return w, ok
}

// after returns the solution that arises from a solution w of the equation of a step.
func after(s api.Step, w [][]byte) [][]byte {
	x := []byte(word(s.Out, w))
	w = slices.Clone(w)
	w[s.X] = x
	return w
}

// P11.3: solutions of an equation and those of the equations of its steps arise from each other.
func TestStepSolutions(t *testing.T) {
	all := pairs()
	each(append(slices.Collect(small("XYab", 3)), slices.Collect(small("XYa", 4))...), func(e api.Equation) {
		if s, ok := equation.Strip(e); ok && isSolved(s) {
			return
		}
		steps := equation.Steps(e)
		for _, w := range all {
			arises := false
			for _, s := range steps {
				v, ok := before(s, w)
				arises = arises || ok && equation.Holds(s.E, v)
				if equation.Holds(s.E, w) && !equation.Holds(e, after(s, w)) {
					t.Errorf("%s, %s: %q is no solution", text(e), stepText(s), after(s, w))
				}
			}
			if equation.Holds(e, w) != arises {
				t.Errorf("%s: %q arises from a step: %v", text(e), w, arises)
			}
		}
	})
}

// solution follows steps to a solved equation, and returns the solution that they give.
func solution(e api.Equation) ([][]byte, bool) {
	type place struct {
		e     api.Equation
		from  int
		taken api.Step
	}
	s, _ := equation.Strip(e)
	places := []place{{e: s, from: -1}}
	seen := map[string]bool{text(s): true}
	for at := 0; at < len(places); at++ {
		if isSolved(places[at].e) {
			w := slices.Repeat(words(""), api.MaxVars)
			for ; places[at].from >= 0; at = places[at].from {
				w = after(places[at].taken, w)
			}
			return w, true
		}
		for _, step := range equation.Steps(places[at].e) {
			if !seen[text(step.E)] {
				seen[text(step.E)] = true
				places = append(places, place{step.E, at, step})
			}
		}
	}
	return nil, false
}

// certain fails unless the graph of an equation, if it is not too large, contains a solved equation exactly if there is a
// solution, and is accepted if there is none.
func certain(t *testing.T, e api.Equation, all [][][]byte) {
	g, ok, err := equation.Graph(e)
	if err != api.OK {
		return
	}
	if shows := equation.Check(e, g); shows == ok {
		t.Errorf("%s, %q: Check returns %v", text(e), texts(g), shows)
	}
	if ok {
		if w, found := solution(e); !found || !equation.Holds(e, w) {
			t.Errorf("%s has a solved element, but the solution is %q, %v", text(e), w, found)
		}
		return
	}
	for _, w := range all {
		if equation.Holds(e, w) {
			t.Errorf("%s: %q is a solution", text(e), w)
		}
	}
}

// P11.4: graphs show whether there is a solution.
func TestGraphSolutions(t *testing.T) {
	all := pairs()
	each(slices.Collect(small("XYab", 3)), func(e api.Equation) { certain(t, e, all) })
	each(slices.Collect(small("XYa", 4)), func(e api.Equation) { certain(t, e, all) })
	few, _ := assigned(shortlex(inScope("ab", 1)), 6, 1000)
	each(samples(2, 4000), func(e api.Equation) { certain(t, equation.Canon(e), few) })
}

// refuted returns sample equations with graphs that contain no solved equation, but several others.
func refuted(seed uint64, n int) ([]api.Equation, [][]api.Equation) {
	r := random(seed)
	var l []api.Equation
	var graphs [][]api.Equation
	for len(l) < n {
		e := sample(r, 1+r.IntN(3), 6)
		if g, ok, err := equation.Graph(e); err == api.OK && !ok && len(g) > r.IntN(6) && len(g) < 30 {
			l, graphs = append(l, e), append(graphs, g)
		}
	}
	return l, graphs
}

// P11.5: a graph from which an element is removed is not accepted, but repetitions, other graphs and other orders are.
func TestChangedGraphs(t *testing.T) {
	l, graphs := refuted(3, 300)
	r := random(4)
	for k, e := range l {
		g := graphs[k]
		for i := range g {
			if fewer := slices.Delete(cloneAll(g), i, i+1); equation.Check(e, fewer) || shown(e, fewer) {
				t.Errorf("%s: %q is accepted without %s", text(e), texts(g), text(g[i]))
			}
			changed := cloneAll(g)
			changed[i] = l[r.IntN(len(l))]
			if ok := equation.Check(e, changed); ok != shown(e, changed) {
				t.Errorf("%s: Check of %q is %v", text(e), texts(changed), ok)
			}
			changed[i] = api.Equation{L: g[i].R, R: g[i].L}
			if ok := equation.Check(e, changed); ok != shown(e, changed) {
				t.Errorf("%s: Check of %q is %v", text(e), texts(changed), ok)
			}
		}
		more := slices.Concat(graphs[r.IntN(len(l))], g, g[:r.IntN(len(g)+1)])
		r.Shuffle(len(more), func(i, j int) { more[i], more[j] = more[j], more[i] })
		if !equation.Check(e, more) || !shown(e, more) {
			t.Errorf("%s: %q is not accepted", text(e), texts(more))
		}
	}
}

// P11.5: Check accepts what the definition says, and nothing for an equation that has a solution.
func TestCheckLists(t *testing.T) {
	l, graphs := refuted(5, 200)
	l = append(l, samples(6, 200)...)
	all := pairs()
	accepted := 0
	for k, e := range slices.Collect(small("YXab", 2)) {
		r := random(uint64(1000 + k))
		g := guess(r, e, l, graphs)
		ok := equation.Check(e, g)
		if ok != shown(e, g) {
			t.Fatalf("Check(%s, %q): %v", text(e), texts(g), ok)
		}
		if !ok {
			continue
		}
		accepted++
		for _, w := range all {
			if solves(e, w) {
				t.Fatalf("%s has the solution %q, but %q is accepted", text(e), w, texts(g))
			}
		}
	}
	if accepted < 50 {
		t.Errorf("only %d lists are accepted", accepted)
	}
}

// guess returns equations that often, but not always, show that e has no solution.
func guess(r *rand.Rand, e api.Equation, l []api.Equation, graphs [][]api.Equation) []api.Equation {
	g, _, _ := equation.Graph(e)
	for range r.IntN(3) {
		g = append(g, graphs[r.IntN(len(graphs))]...)
	}
	switch r.IntN(6) {
	case 0:
		g = append(g, l[r.IntN(len(l))])
	case 1:
		g = append(g, equation.Canon(l[r.IntN(len(l))]))
	case 2:
		g = slices.DeleteFunc(g, isSolved)
	case 3:
		if len(g) > 0 {
			i := r.IntN(len(g))
			g = slices.Delete(g, i, i+1)
		}
	}
	return g
}

// renamed returns an equation with other variables.
func renamed(e api.Equation, numbers []int) api.Equation {
	c := clone(e)
	for _, side := range [][]api.Item{c.L, c.R} {
		for at := range side {
			if side[at].X >= 0 {
				side[at].X = numbers[side[at].X]
			}
		}
	}
	return c
}

// P11.6: canonical equations and graphs do not depend on the numbers of the variables; a canonical equation is canonical.
func TestRenaming(t *testing.T) {
	each(append(samples(7, 3000), slices.Collect(small("XYa", 3))...), func(e api.Equation) {
		r := random(uint64(len(e.L)*100 + len(e.R)))
		c := equation.Canon(e)
		g, ok, err := equation.Graph(e)
		for range 5 {
			x := renamed(e, r.Perm(api.MaxVars))
			if !same(equation.Canon(x), c) {
				t.Errorf("%s and %s are canonically %s and %s", text(e), text(x), text(c), text(equation.Canon(x)))
			}
			if h, also, err2 := equation.Graph(x); !sameAll(g, h) || also != ok || err != err2 {
				t.Errorf("%s and %s have the graphs %q, %v, %v and %q, %v, %v", text(e), text(x), texts(g), ok, err, texts(h), also, err2)
			}
			if equation.Check(x, g) != equation.Check(e, g) {
				t.Errorf("Check of %s and %s differs for %q", text(e), text(x), texts(g))
			}
		}
		if !same(equation.Canon(c), c) {
			t.Errorf("%s is canonically %s", text(c), text(equation.Canon(c)))
		}
	})
}

// P11.1, K6: least solutions of equations of all sizes in scopes of all kinds.
func TestLeastSamples(t *testing.T) {
	l := []api.Scope{inScope("a", 0), inScope("ab", 0), inScope("b", 3), inScope("ab", 1), inScope("ab", 2), inScope("bc", 2), inScope("abc", 2), inScope("abcd", 1), inScope("ab", 4)}
	check := func(e api.Equation, s api.Scope) {
		want, found, enough := first(e, s)
		w, ok, err := equation.Least(e, s)
		if ok != found || !sameWords(w, want) || enough != (err == api.OK) || !enough && err != api.ErrBig {
			t.Errorf("%s, %v: %q, %v, %v", text(e), s, w, ok, err)
		}
		if ok && !equation.Holds(e, w) {
			t.Errorf("%s, %v: %q is no solution", text(e), s, w)
		}
	}
	each(slices.Collect(small("XYab", 2)), func(e api.Equation) {
		for _, s := range l {
			check(e, s)
		}
	})
	each(append(samples(8, 1500), slices.Collect(small("XYa", 3))...), func(e api.Equation) {
		check(e, l[(7*len(e.L)+len(e.R))%len(l)])
		check(equation.Canon(e), l[(3*len(e.L)+len(e.R)+1)%len(l)])
	})
}
