package rows

import "univocal/api"

// largest bounds the numbers of the rows that are added to a branch.
const largest = 1 << 40

// A visit is a step whose branch consists of the first rows of its parent's branch, as many as before says, and of the row
// that the parent adds.
type visit struct {
	step, before int
	row          api.Row
}

// Check checks a refutation.
func Check(s api.System, p api.RowProof) bool {
	if !Valid(s) || !shaped(p) {
		return false
	}
	branch := given(s)
	last := len(branch) - 1
	visits := []visit{{0, last, branch[last]}}
	for len(visits) > 0 {
		last = len(visits) - 1
		v := visits[last]
		visits = visits[:last]
		// The rows before are still those of the parent: the steps since then belong to its other child, and come behind.
		branch = append(branch[:v.before], v.row)
		step := p[v.step]
		rows, ok := added(step, branch)
		if !ok {
			return false
		}
		for i, child := range children(step) {
			visits = append(visits, visit{child, len(branch), rows[i]})
		}
	}
	return true
}

// shaped reports whether the steps of a list have only the fields of their kinds and form trees in which all steps follow
// their parents.
func shaped(p api.RowProof) bool {
	if len(p) < 1 || len(p) > api.MaxProof {
		return false
	}
	used := make([]bool, len(p))
	for at, step := range p {
		if !plain(step) {
			return false
		}
		for _, child := range children(step) {
			if child <= at || child >= len(p) || used[child] {
				return false
			}
			used[child] = true
		}
	}
	return true
}

// plain reports whether a step has a kind, and no fields that do not belong to it.
func plain(step api.RowStep) bool {
	switch step.Kind {
	case api.RwSum:
		step.M, step.Next = nil, 0
	case api.RwCut:
		step.R, step.D, step.Next = 0, 0, 0
	case api.RwSplit:
		step.X, step.K, step.Next, step.Else = 0, 0, 0, 0
	case api.RwClose:
	default:
		return false
	}
	numbers := [...]int{step.R, step.D, step.X, step.K, step.Next, step.Else}
	return len(step.M) == 0 && numbers == [len(numbers)]int{}
}

// children returns the steps that follow a step.
func children(step api.RowStep) []int {
	switch step.Kind {
	case api.RwSum, api.RwCut:
		return []int{step.Next}
	case api.RwSplit:
		return []int{step.Next, step.Else}
	}
	return nil
}

// given returns the rows of the branch of the first step.
func given(s api.System) []api.Row {
	n := len(s.Top)
	branch := append([]api.Row(nil), s.Rows...)
	for i := range n {
		branch = append(branch, atLeast(n, i, 0))
	}
	for i, top := range s.Top {
		branch = append(branch, atMost(n, i, top))
	}
	return branch
}

// atLeast returns the row that says that variable i of n is at least k.
func atLeast(n, i, k int) api.Row {
	r := api.Row{A: make([]int, n), C: -k}
	r.A[i] = 1
	return r
}

// atMost returns the row that says that variable i of n is at most k.
func atMost(n, i, k int) api.Row {
	r := api.Row{A: make([]int, n), C: k}
	r.A[i] = -1
	return r
}

// added returns the row that a step adds for each of its children, and whether its condition holds for its branch.
func added(step api.RowStep, branch []api.Row) ([]api.Row, bool) {
	switch step.Kind {
	case api.RwSum:
		r, ok := sum(step.M, branch)
		return []api.Row{r}, ok
	case api.RwCut:
		r, ok := cut(step.R, step.D, branch)
		return []api.Row{r}, ok
	case api.RwSplit:
		return split(step.X, step.K, len(branch[0].A))
	}
	return nil, absurd(branch[len(branch)-1])
}

// sum returns the sum of the rows of a branch, each multiplied by its element of m. It reports whether these multipliers are
// valid and no sum on the way is too large.
func sum(m []int, branch []api.Row) (api.Row, bool) {
	if len(m) != len(branch) {
		return api.Row{}, false
	}
	total := api.Row{A: make([]int, len(branch[0].A))}
	add := func(r api.Row, times int) {
		for i, a := range r.A {
			total.A[i] += times * a
		}
		total.C += times * r.C
	}
	for k, r := range branch {
		if m[k] < 0 || m[k] > api.MaxCoef {
			return api.Row{}, false
		}
		// Neither product nor sum overflows, since the numbers of r and the sum so far are within largest.
		add(r, m[k])
		if !within(total, largest) {
			return api.Row{}, false
		}
	}
	return total, true
}

// cut returns row k of a branch divided by d, and whether this is allowed.
func cut(k, d int, branch []api.Row) (api.Row, bool) {
	if k < 0 || k >= len(branch) || d < 2 {
		return api.Row{}, false
	}
	r := api.Row{C: branch[k].C / d}
	if branch[k].C%d < 0 {
		// The quotient of a negative number is rounded up.
		r.C--
	}
	for _, a := range branch[k].A {
		if a%d != 0 {
			return api.Row{}, false
		}
		r.A = append(r.A, a/d)
	}
	return r, true
}

// split returns the rows of both branches of a split by variable i of n and the number k, and whether these are valid.
func split(i, k, n int) ([]api.Row, bool) {
	const most = 1 << 20
	if i < 0 || i >= n || k < -most || k > most {
		return nil, false
	}
	return []api.Row{atMost(n, i, k), atLeast(n, i, k+1)}, true
}

// absurd reports whether a row without a positive coefficient is negative at all points.
func absurd(r api.Row) bool {
	for _, a := range r.A {
		if a > 0 {
			return false
		}
	}
	return r.C < 0
}
