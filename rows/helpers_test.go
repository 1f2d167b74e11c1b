package rows_test

import (
	"iter"
	"math"
	"math/rand/v2"
	"slices"
	"strconv"
	"sync"
	"testing"

	"univocal/api"
	"univocal/rows"
)

// row returns the row with the constant c and the coefficients a.
func row(c int, a ...int) api.Row { return api.Row{A: a, C: c} }

func system(top []int, rows ...api.Row) api.System { return api.System{Top: top, Rows: rows} }

// tops returns n elements of a list Top.
func tops(n, top int) []int { return slices.Repeat([]int{top}, n) }

// random returns a fixed sequence of numbers.
func random(seed uint64) *rand.Rand { return rand.New(rand.NewPCG(10, seed)) }

// points enumerates the candidate points of a system in lexicographic order.
func points(s api.System) iter.Seq[[]int] {
	return func(yield func([]int) bool) {
		x := make([]int, len(s.Top))
		for {
			if !yield(slices.Clone(x)) {
				return
			}
			i := len(x) - 1
			for ; i >= 0 && x[i] == s.Top[i]; i-- {
				x[i] = 0
			}
			if i < 0 {
				return
			}
			x[i]++
		}
	}
}

// solves follows the chapter's definition of a solution for a candidate point.
func solves(s api.System, x []int) bool {
	for _, r := range s.Rows {
		sum := r.C
		for i := range r.A {
			sum += r.A[i] * x[i]
		}
		if sum < 0 {
			return false
		}
	}
	return true
}

// solutions returns all solutions of a system in lexicographic order.
func solutions(s api.System) [][]int {
	var l [][]int
	for x := range points(s) {
		if solves(s, x) {
			l = append(l, x)
		}
	}
	return l
}

// sample returns a valid system with at most most candidate points and with coefficients around zero.
func sample(r *rand.Rand, most int) api.System {
	var s api.System
	variables := 1 + r.IntN(5)
	if r.IntN(5) == 0 {
		variables = 1 + r.IntN(api.MaxVars)
	}
	for points := 1; len(s.Top) < variables; {
		top := min(r.IntN(8), most/points-1, api.MaxTop)
		if r.IntN(6) == 0 {
			top = min(r.IntN(api.MaxTop+1), most/points-1)
		}
		s.Top = append(s.Top, top)
		points *= top + 1
	}
	size := []int{2, 3, 12, api.MaxCoef + 1}[r.IntN(4)]
	for range r.IntN(7) {
		s.Rows = append(s.Rows, sampleRow(r, variables, size))
		if r.IntN(4) == 0 && len(s.Rows) < api.MaxRows {
			s.Rows = append(s.Rows, opposite(s.Rows[len(s.Rows)-1]))
		}
	}
	return s
}

// sampleRow returns a row with numbers of less than size beside zeros.
func sampleRow(r *rand.Rand, variables, size int) api.Row {
	var x api.Row
	for range variables {
		a := 0
		if r.IntN(4) > 0 {
			a = r.IntN(2*size-1) - size + 1
		}
		x.A = append(x.A, a)
	}
	x.C = r.IntN(2*size-1) - size + 1
	return x
}

// opposite returns the row that holds, with r, where r is zero.
func opposite(r api.Row) api.Row {
	var x api.Row
	for _, a := range r.A {
		x.A = append(x.A, -a)
	}
	x.C = -r.C
	return x
}

// samples returns valid systems.
func samples(n, most int) []api.System {
	r := random(1)
	var l []api.System
	for range n {
		l = append(l, sample(r, most))
	}
	return l
}

// extremes are numbers that are out of every range.
var extremes = []int{math.MinInt, math.MinInt + 1, -1 << 40, -1 << 32, 1 << 32, 1<<32 + 1, 1 << 40, math.MaxInt}

// invalid returns systems that are not valid, each for one reason.
func invalid() map[string]api.System {
	good := func() api.System { return system([]int{3, 2}, row(1, 1, -1), row(0, 2, 2)) }
	l := map[string]api.System{
		"nothing":               {},
		"no variables":          system([]int{}, row(0)),
		"too many variables":    system(tops(13, 1), row(0, tops(13, 1)...)),
		"too many rows":         system([]int{1}, slices.Repeat([]api.Row{row(0, 1)}, 25)...),
		"a row without numbers": system([]int{3, 2}, row(1, 1, -1), row(1)),
		"a short row":           system([]int{3, 2}, row(1, 1, -1), row(1, 1)),
		"a long row":            system([]int{3, 2}, row(1, 1, -1), row(1, 1, 1, 0)),
	}
	for _, x := range append(slices.Clone(extremes), -1, 65, 66) {
		for i := range 2 {
			s := good()
			s.Top[i] = x
			l["top "+strconv.Itoa(i)+" "+strconv.Itoa(x)] = s
		}
	}
	for _, x := range append(slices.Clone(extremes), -1001, 1001) {
		for i := range 2 {
			s := good()
			s.Rows[1].A[i] = x
			l["coefficient "+strconv.Itoa(i)+" "+strconv.Itoa(x)] = s
			s = good()
			s.Rows[i].C = x
			l["constant "+strconv.Itoa(i)+" "+strconv.Itoa(x)] = s
		}
	}
	return l
}

// each calls check for all elements of l, several at a time.
func each[T any](l []T, check func(x T)) {
	const workers = 8
	var w sync.WaitGroup
	for i := range workers {
		w.Go(func() {
			for j := i; j < len(l); j += workers {
				check(l[j])
			}
		})
	}
	w.Wait()
}

// refutation returns the refutation of a system without solutions.
func refutation(t *testing.T, s api.System) api.RowProof {
	t.Helper()
	x, p, ok, err := rows.Solve(s)
	if ok || err != api.OK || len(x) > 0 {
		t.Fatalf("Solve(%v): %v, %v, %v", s, x, ok, err)
	}
	return p
}

// refuted returns n sample systems that have no solution, with refutations of at most steps steps.
func refuted(t *testing.T, n, steps int) ([]api.System, []api.RowProof) {
	t.Helper()
	r := random(2)
	var l []api.System
	var proofs []api.RowProof
	for len(l) < n {
		s := sample(r, 60)
		if _, p, ok, _ := rows.Solve(s); !ok && len(p) <= steps {
			l, proofs = append(l, s), append(proofs, p)
		}
	}
	return l, proofs
}

// sum returns the step that adds the sum of the rows of the branch times m.
func sum(next int, m ...int) api.RowStep { return api.RowStep{Kind: api.RwSum, M: m, Next: next} }

// cut returns the step that adds row r of the branch divided by d.
func cut(next, r, d int) api.RowStep { return api.RowStep{Kind: api.RwCut, R: r, D: d, Next: next} }

// split returns the step that splits at the value k of variable x.
func split(x, k, next, other int) api.RowStep {
	return api.RowStep{Kind: api.RwSplit, X: x, K: k, Next: next, Else: other}
}

func shut() api.RowStep { return api.RowStep{Kind: api.RwClose} }

// times returns m multipliers of which those at the indices of the map have its values.
func times(m int, values map[int]int) []int {
	l := make([]int, m)
	for k, v := range values {
		l[k] = v
	}
	return l
}

func cloneSystem(s api.System) api.System {
	c := api.System{Top: slices.Clone(s.Top)}
	for _, r := range s.Rows {
		c.Rows = append(c.Rows, api.Row{A: slices.Clone(r.A), C: r.C})
	}
	return c
}

func cloneProof(p api.RowProof) api.RowProof {
	c := slices.Clone(p)
	for i := range c {
		c[i].M = slices.Clone(c[i].M)
	}
	return c
}

func sameStep(x, y api.RowStep) bool {
	return x.Kind == y.Kind && slices.Equal(x.M, y.M) && x.R == y.R && x.D == y.D && x.X == y.X && x.K == y.K &&
		x.Next == y.Next && x.Else == y.Else
}

func sameProof(x, y api.RowProof) bool { return slices.EqualFunc(x, y, sameStep) }

// numbers returns the places of all numbers of a refutation.
func numbers(p api.RowProof) []*int {
	var l []*int
	for i := range p {
		s := &p[i]
		l = append(l, &s.Kind, &s.R, &s.D, &s.X, &s.K, &s.Next, &s.Else)
		for j := range s.M {
			l = append(l, &s.M[j])
		}
	}
	return l
}
