package rows_test

import (
	"math/rand/v2"
	"slices"
	"testing"

	"univocal/api"
	"univocal/rows"
)

// small enumerates systems with two rows over two variables.
func small(yield func(s api.System) bool) {
	for k := range 5 * 5 * 5 * 5 * 5 * 5 {
		digit := func() int {
			d := k % 5
			k /= 5
			return d - 2
		}
		s := system([]int{2, 3}, row(2*digit()+1, digit(), digit()), row(2*digit()-1, digit(), digit()))
		if !yield(s) {
			return
		}
	}
}

// agrees fails unless Solve returns the first solution, or a refutation if there is none.
func agrees(t *testing.T, s api.System) {
	l := solutions(s)
	x, p, ok, err := rows.Solve(s)
	switch {
	case err != api.OK || ok != (len(l) > 0):
		t.Errorf("%v: %v, %v, %v, but there are %d solutions", s, x, ok, err, len(l))
	case ok && (!slices.Equal(x, l[0]) || len(p) > 0):
		t.Errorf("%v: %v instead of %v, refutation %v", s, x, l[0], p)
	case !ok && (!rows.Check(s, p) || len(x) > 0):
		t.Errorf("%v: the refutation %v is not accepted, or there is a point %v", s, p, x)
	}
}

// P10.3, P10.4: all systems with two rows and small numbers.
func TestSolveSmall(t *testing.T) {
	for s := range small {
		agrees(t, s)
	}
}

// P10.3, P10.4: systems of all sizes.
func TestSolveSamples(t *testing.T) {
	each(samples(6000, 300), func(s api.System) { agrees(t, s) })
	each(samples(100, api.MaxPoints), func(s api.System) { agrees(t, s) })
}

// P10.3: systems that are hard to refute, with as many candidate points as possible.
func TestSolveHard(t *testing.T) {
	r := random(3)
	var l []api.System
	for _, c := range sized {
		for k := range 6 {
			if !c.small {
				continue
			}
			// The row is an odd number, whose coefficients are even, and nearly equal or growing.
			var x api.Row
			middle := 0
			for i, top := range c.top {
				a := 2 * (20 + r.IntN(9))
				if k%2 == 1 {
					a = 2 * min(500, 1<<(i*8/len(c.top))+r.IntN(3))
				}
				if k%3 == 0 && i%2 == 0 {
					a = -a
				}
				x.A = append(x.A, a)
				middle += a * top / 2
			}
			x.C = min(max(-middle|1, -999), 999)
			s := system(c.top, x, opposite(x))
			for i := range c.top {
				// The other rows hold everywhere.
				s.Rows = append(s.Rows, row(1000-i, times(len(c.top), map[int]int{i: -15})...))
			}
			l = append(l, s)
		}
	}
	each(l, func(s api.System) { agrees(t, s) })
}

// P10.1, P10.4, P10.6: the greatest systems are solved and projected, also at their last points.
func TestSolveLast(t *testing.T) {
	for _, c := range sized {
		if !c.small {
			continue
		}
		s := system(c.top)
		for i, top := range c.top {
			s.Rows = append(s.Rows, row(-top, times(len(c.top), map[int]int{i: 1})...))
		}
		x, p, ok, err := rows.Solve(s)
		if !ok || err != api.OK || !slices.Equal(x, c.top) || len(p) > 0 {
			t.Errorf("%v: %v, %v, %v, %v", s, x, p, ok, err)
		}
		for i, top := range c.top {
			if least, greatest, ok := rows.Project(s, i); !ok || least != top || greatest != top {
				t.Errorf("%v, variable %d: %d, %d, %v", s, i, least, greatest, ok)
			}
		}
	}
}

// projected fails unless Project returns the bounds of all variables in the solutions.
func projected(t *testing.T, s api.System) {
	l := solutions(s)
	for i := range s.Top {
		want := [2]int{}
		for k, x := range l {
			if k == 0 {
				want = [2]int{x[i], x[i]}
			}
			want = [2]int{min(want[0], x[i]), max(want[1], x[i])}
		}
		least, greatest, ok := rows.Project(s, i)
		if ok != (len(l) > 0) || want != [2]int{least, greatest} {
			t.Errorf("%v, variable %d: %d, %d, %v, want %v", s, i, least, greatest, ok, want)
		}
	}
	for _, i := range []int{-1, len(s.Top), api.MaxVars} {
		if _, _, ok := rows.Project(s, i); ok {
			t.Errorf("%v has a variable %d", s, i)
		}
	}
}

// P10.6: the bounds of projections.
func TestProjectSamples(t *testing.T) {
	for s := range small {
		projected(t, s)
	}
	each(samples(3000, 300), func(s api.System) { projected(t, s) })
	each(samples(30, api.MaxPoints), func(s api.System) { projected(t, s) })
}

// P10.1, J1: rows hold where their sums are not negative.
func TestHoldsSamples(t *testing.T) {
	for _, s := range samples(500, 100) {
		for x := range points(s) {
			all := true
			for _, r := range s.Rows {
				all = all && rows.Holds(r, x)
			}
			if all != solves(s, x) {
				t.Fatalf("%v at %v: %v", s, x, all)
			}
		}
	}
}

// P10.5: a further row does not give a system solutions; sums of rows and exchanged rows do not change the result.
func TestFurtherRows(t *testing.T) {
	r := random(4)
	for _, s := range samples(2000, 200) {
		x, _, ok, _ := rows.Solve(s)
		further := cloneSystem(s)
		further.Rows = append(further.Rows, sampleRow(r, len(s.Top), 4))
		if y, _, has, err := rows.Solve(further); err != api.OK || has && (!ok || slices.Compare(y, x) < 0) {
			t.Fatalf("%v: %v, %v, but with a further row %v, %v, %v", s, x, ok, y, has, err)
		}
		for i := range s.Top {
			a, b, _ := rows.Project(s, i)
			if c, d, has := rows.Project(further, i); has && (!ok || c < a || d > b) {
				t.Fatalf("%v, variable %d: %d to %d, but with a further row %d to %d", s, i, a, b, c, d)
			}
		}
		same := cloneSystem(s)
		if total := combination(r, s); rows.Valid(system(s.Top, total)) {
			same.Rows = append(same.Rows, total)
		}
		r.Shuffle(len(same.Rows), func(i, j int) { same.Rows[i], same.Rows[j] = same.Rows[j], same.Rows[i] })
		y, p, has, err := rows.Solve(same)
		if err != api.OK || has != ok || !slices.Equal(x, y) || !has && !rows.Check(same, p) {
			t.Fatalf("%v: %v, %v, but with its sums %v, %v, %v", s, x, ok, y, has, err)
		}
	}
}

// combination returns a sum of rows of a system times numbers that are not negative.
func combination(r *rand.Rand, s api.System) api.Row {
	total := api.Row{A: make([]int, len(s.Top))}
	for _, x := range s.Rows {
		m := max(0, r.IntN(6)-2)
		for i, a := range x.A {
			total.A[i] += m * a
		}
		total.C += m * x.C
	}
	return total
}

// P10.2: Check accepts what the definition calls a refutation, and no system with one has a solution.
func TestCheckRandom(t *testing.T) {
	r := random(5)
	accepted := 0
	for range 60000 {
		s := sample(r, 30)
		p := guess(r, s)
		ok := rows.Check(s, p)
		if ok != check(s, p) {
			t.Fatalf("%v, %v: %v", s, p, ok)
		}
		if ok {
			accepted++
			if l := solutions(s); len(l) > 0 {
				t.Fatalf("%v has the solution %v and the refutation %v", s, l[0], p)
			}
		}
	}
	if accepted < 1000 {
		t.Errorf("only %d refutations are accepted", accepted)
	}
}

// guess returns steps for a system that are often, but not always, a refutation of it.
func guess(r *rand.Rand, s api.System) api.RowProof {
	var p api.RowProof
	var grow func(depth, size int)
	grow = func(depth, size int) {
		at := len(p)
		kind := 1 + r.IntN(3)
		if depth == 0 {
			kind = api.RwSum
		}
		p = append(p, api.RowStep{Kind: kind, Next: at + 1})
		switch kind {
		case api.RwSum:
			m := make([]int, size)
			for range 1 + r.IntN(3) {
				m[r.IntN(size)] = r.IntN(4)
			}
			p[at].M = m
		case api.RwCut:
			p[at].R, p[at].D = r.IntN(size), 2+r.IntN(2)
		default:
			p[at].X, p[at].K = r.IntN(len(s.Top)), r.IntN(4)-1
			if p[at].K < 0 {
				p = append(p, shut())
			} else {
				grow(depth-1, size+1)
			}
			p[at].Else = len(p)
		}
		if depth == 0 || kind == api.RwSum && r.IntN(2) == 0 {
			p = append(p, shut())
			return
		}
		grow(depth-1, size+1)
	}
	grow(r.IntN(4), len(s.Rows)+2*len(s.Top))
	return p
}

// P10.2, P10.7: refutations of which a number is changed are accepted if they follow the definition, and never for a system
// that has a solution.
func TestChangedNumbers(t *testing.T) {
	systems, proofs := refuted(t, 150, 40)
	var all []int
	for i := range systems {
		all = append(all, i)
	}
	each(all, func(i int) {
		s, solved := systems[i], solvable(systems[i])
		if len(solved) == 0 {
			t.Errorf("%v: no system with a solution is like this one", s)
		}
		p := cloneProof(proofs[i])
		attempts := 0
		for _, x := range numbers(p) {
			kept := *x
			for _, y := range []int{kept, kept - 1, kept + 1, 0, 1, 2, 3, 4, -kept, 2 * kept, 1000, len(p) - 1, 1 << 40} {
				*x = y
				if ok := rows.Check(s, p); ok != check(s, p) {
					t.Errorf("%v, %v: %v", s, p, ok)
					return
				}
				attempts++
				if s := solved[attempts%len(solved)]; rows.Check(s, p) {
					t.Errorf("%v has a solution, but the refutation %v is accepted", s, p)
					return
				}
			}
			*x = kept
		}
		if !sameProof(p, proofs[i]) || !rows.Check(s, p) {
			t.Errorf("%v, %v: the refutation is not accepted after all", s, p)
		}
	})
}

// solvable returns systems that have a solution and differ from s in a number or a row.
func solvable(s api.System) []api.System {
	var l []api.System
	add := func(s api.System) {
		if rows.Valid(s) && len(solutions(s)) > 0 {
			l = append(l, cloneSystem(s))
		}
	}
	s = cloneSystem(s)
	var places []*int
	for i := range s.Top {
		places = append(places, &s.Top[i])
	}
	for k := range s.Rows {
		places = append(places, &s.Rows[k].C)
		for i := range s.Rows[k].A {
			places = append(places, &s.Rows[k].A[i])
		}
	}
	for _, x := range places {
		kept := *x
		for _, y := range []int{kept + 1, kept - 1, kept + 2, 0, 1, kept + 5, -kept, 30, 1000, -1000} {
			if *x = y; len(s.Top) < 4 || y < 30 || y > 64 {
				add(s)
			}
		}
		*x = kept
	}
	for k := range s.Rows {
		// A row that holds everywhere, in the place of row k.
		kept := s.Rows[k]
		s.Rows[k] = row(0, make([]int, len(s.Top))...)
		add(s)
		s.Rows[k] = kept
	}
	for k := range s.Rows {
		s.Rows[k] = row(0, make([]int, len(s.Top))...)
	}
	add(s)
	return l
}

// P10.7: a refutation is accepted only for systems without solutions.
func TestOtherSystems(t *testing.T) {
	systems, proofs := refuted(t, 400, 60)
	accepted := 0
	for i, s := range systems {
		for _, p := range proofs[max(0, i-20):] {
			ok := rows.Check(s, p)
			if ok {
				accepted++
			}
			if ok != check(s, p) {
				t.Fatalf("%v, %v: %v", s, p, ok)
			}
		}
		for _, s := range solvable(s) {
			if rows.Check(s, proofs[i]) {
				t.Fatalf("%v has a solution, but the refutation %v is accepted", s, proofs[i])
			}
		}
	}
	if accepted < len(systems) {
		t.Errorf("only %d refutations are accepted", accepted)
	}
}
