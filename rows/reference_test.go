package rows_test

import (
	"math/big"

	"univocal/api"
	"univocal/rows"
)

// A bigRow is a row of a branch, with the constant behind the coefficients.
type bigRow []*big.Int

func toBig(r api.Row) bigRow {
	var l bigRow
	for _, a := range r.A {
		l = append(l, big.NewInt(int64(a)))
	}
	return append(l, big.NewInt(int64(r.C)))
}

// bounded returns the row x[i] + c >= 0 or, with negative sign, c - x[i] >= 0.
func bounded(n, i, sign, c int) bigRow {
	r := api.Row{A: make([]int, n), C: c}
	r.A[i] = sign
	return toBig(r)
}

// allowed reports whether no number of r is too large.
func (r bigRow) allowed() bool {
	for _, x := range r {
		if new(big.Int).Abs(x).Cmp(big.NewInt(1<<40)) > 0 {
			return false
		}
	}
	return true
}

// check follows the chapter's definition of a refutation: first the conditions on all steps, then those on the branches,
// each of which is a list of its own.
func check(s api.System, p api.RowProof) bool {
	if !rows.Valid(s) || len(p) < 1 || len(p) > 65536 {
		return false
	}
	parents := map[int]int{}
	for i, step := range p {
		uses := map[int]string{1: "MN", 2: "RDN", 3: "XKNE", 4: " "}[step.Kind]
		if uses == "" {
			return false
		}
		for _, x := range []struct {
			field byte
			zero  bool
		}{{'M', len(step.M) == 0}, {'R', step.R == 0}, {'D', step.D == 0}, {'X', step.X == 0}, {'K', step.K == 0}, {'N', step.Next == 0}, {'E', step.Else == 0}} {
			if !x.zero && !has(uses, x.field) {
				return false
			}
		}
		for _, x := range []struct {
			field byte
			next  int
		}{{'N', step.Next}, {'E', step.Else}} {
			if has(uses, x.field) {
				if x.next <= i || x.next >= len(p) {
					return false
				}
				parents[x.next]++
			}
		}
	}
	for _, n := range parents {
		if n > 1 {
			return false
		}
	}
	n := len(s.Top)
	var branch []bigRow
	for _, r := range s.Rows {
		branch = append(branch, toBig(r))
	}
	for i := range n {
		branch = append(branch, bounded(n, i, 1, 0))
	}
	for i := range n {
		branch = append(branch, bounded(n, i, -1, s.Top[i]))
	}
	return reaches(n, p, 0, branch)
}

func has(s string, x byte) bool {
	for i := range len(s) {
		if s[i] == x {
			return true
		}
	}
	return false
}

// with returns a new branch with a further row.
func with(branch []bigRow, r bigRow) []bigRow {
	return append(append([]bigRow(nil), branch...), r)
}

// reaches reports whether the conditions hold for the step i, which is reached by a branch, and for all that follow it.
func reaches(n int, p api.RowProof, i int, branch []bigRow) bool {
	step := p[i]
	switch step.Kind {
	case 1:
		if len(step.M) != len(branch) {
			return false
		}
		total := toBig(api.Row{A: make([]int, n)})
		for k, m := range step.M {
			if m < 0 || m > 1000 {
				return false
			}
			for j := range total {
				total[j] = new(big.Int).Add(total[j], new(big.Int).Mul(big.NewInt(int64(m)), branch[k][j]))
			}
			if !total.allowed() {
				return false
			}
		}
		return reaches(n, p, step.Next, with(branch, total))
	case 2:
		if step.R < 0 || step.R >= len(branch) || step.D < 2 {
			return false
		}
		var r bigRow
		for j, x := range branch[step.R] {
			// Euclidean division rounds down, since D is positive.
			q, rest := new(big.Int).DivMod(x, big.NewInt(int64(step.D)), new(big.Int))
			if rest.Sign() != 0 && j < n {
				return false
			}
			r = append(r, q)
		}
		return r.allowed() && reaches(n, p, step.Next, with(branch, r))
	case 3:
		if step.X < 0 || step.X >= n || step.K < -1<<20 || step.K > 1<<20 {
			return false
		}
		return reaches(n, p, step.Next, with(branch, bounded(n, step.X, -1, step.K))) &&
			reaches(n, p, step.Else, with(branch, bounded(n, step.X, 1, -step.K-1)))
	}
	last := branch[len(branch)-1]
	for _, a := range last[:n] {
		if a.Sign() > 0 {
			return false
		}
	}
	return last[n].Sign() < 0
}
