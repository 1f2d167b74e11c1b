package clause_test

import (
	"iter"
	"math"
	"math/rand/v2"
	"slices"
	"strconv"
	"strings"
	"sync"
	"testing"

	"univocal/api"
	"univocal/clause"
)

// lits returns the literals of a text, between which there are spaces.
func lits(text string) []int {
	var l []int
	for _, word := range strings.Fields(text) {
		x, err := strconv.Atoi(word)
		if err != nil {
			panic(err)
		}
		l = append(l, x)
	}
	return l
}

// clauses returns the clauses of a text, each of which is in brackets.
func clauses(text string) [][]int {
	var f [][]int
	for part := range strings.SplitAfterSeq(text, ")") {
		if before, ok := strings.CutSuffix(strings.TrimSpace(part), ")"); ok {
			f = append(f, lits(strings.TrimPrefix(before, "(")))
		}
	}
	return f
}

// text returns the text of a list of clauses.
func text(f [][]int) string {
	var l []string
	for _, c := range f {
		var words []string
		for _, x := range c {
			words = append(words, strconv.Itoa(x))
		}
		l = append(l, "("+strings.Join(words, " ")+")")
	}
	return strings.Join(l, " ")
}

// values returns the assignment of a text of the letters T and F.
func values(text string) []bool {
	var m []bool
	for _, b := range text {
		m = append(m, b == 'T')
	}
	return m
}

// letters returns the text of an assignment.
func letters(m []bool) string {
	l := make([]byte, len(m))
	for v, value := range m {
		l[v] = "FT"[btoi(value)]
	}
	return string(l)
}

func btoi(b bool) int {
	if b {
		return 1
	}
	return 0
}

// random returns a fixed sequence of numbers.
func random(seed uint64) *rand.Rand { return rand.New(rand.NewPCG(12, seed)) }

// A task is a formula and its number of variables.
type task struct {
	f [][]int
	n int
}

// literal returns a random literal within n.
func literal(r *rand.Rand, n int) int { return (1 + r.IntN(n)) * (1 - 2*r.IntN(2)) }

// anyClause returns a random clause of some literals within n, which may occur repeatedly and together with their negations.
func anyClause(r *rand.Rand, n, length int) []int {
	var c []int
	for range length {
		if n > 0 {
			c = append(c, literal(r, n))
		}
	}
	return c
}

// plain returns a random clause with one literal each of some variables.
func plain(r *rand.Rand, n, length int) []int {
	c := r.Perm(n)[:min(n, length)]
	for i := range c {
		c[i] = (c[i] + 1) * (1 - 2*r.IntN(2))
	}
	return c
}

// sample returns a formula of at most most variables.
func sample(r *rand.Rand, most int) task {
	n := r.IntN(most + 1)
	count := r.IntN(9)
	if r.IntN(2) == 0 {
		count = min(r.IntN(1+5*n), 200)
	}
	length := 1 + r.IntN(4)
	var f [][]int
	for range count {
		switch k := r.IntN(24); {
		case k < 16:
			f = append(f, plain(r, n, length))
		case k < 22:
			f = append(f, plain(r, n, 1+r.IntN(8)))
		default:
			f = append(f, anyClause(r, n, 1+r.IntN(8)))
		}
	}
	if r.IntN(60) == 0 && count > 0 {
		f[r.IntN(count)] = nil
	}
	return task{f, n}
}

// samples returns formulas of at most most variables.
func samples(seed uint64, count, most int) []task {
	r := random(seed)
	var l []task
	for range count {
		l = append(l, sample(r, most))
	}
	return l
}

// tuples enumerates the lists of at most most elements of a list.
func tuples[T any](list []T, most int) iter.Seq[[]T] {
	var extend func(prefix []T, yield func([]T) bool) bool
	extend = func(prefix []T, yield func([]T) bool) bool {
		if !yield(slices.Clone(prefix)) {
			return false
		}
		for _, x := range list {
			if len(prefix) < most && !extend(append(prefix, x), yield) {
				return false
			}
		}
		return true
	}
	return func(yield func([]T) bool) { extend(nil, yield) }
}

// short returns all clauses of at most most literals within n.
func short(n, most int) [][]int {
	var list []int
	for v := 1; v <= n; v++ {
		list = append(list, v, -v)
	}
	return slices.Collect(tuples(list, most))
}

// small returns all formulas of at most most clauses, each of which has at most two literals of two variables.
func small(most int) []task {
	var l []task
	for f := range tuples(short(2, 2), most) {
		l = append(l, task{f, 2})
	}
	return l
}

// subsets returns all formulas of different clauses of n variables, none of which contains a variable twice, in two orders.
func subsets(n int) []task {
	all := [][]int{nil}
	for v := 1; v <= n; v++ {
		for _, c := range all {
			all = append(all, append(slices.Clone(c), v), append(slices.Clone(c), -v))
		}
	}
	var l []task
	for set := range 1 << len(all) {
		var f [][]int
		for i, c := range all {
			if set>>i&1 == 1 {
				f = append(f, c)
			}
		}
		l = append(l, task{f, n}, task{slices.Clone(f), n})
		slices.Reverse(l[len(l)-1].f)
	}
	return l
}

// cube returns the clauses that exclude all assignments of the variables from first on.
func cube(first, n int) [][]int {
	var f [][]int
	for m := range 1 << n {
		var c []int
		for v := range n {
			c = append(c, (first+v)*(1-2*(m>>v&1)))
		}
		f = append(f, c)
	}
	return f
}

// parity returns the clauses that say that an odd number of variables is true if odd is 1, and an even number if it is 0.
func parity(odd int, variables ...int) [][]int {
	var f [][]int
	for m := range 1 << len(variables) {
		ones, c := 0, []int(nil)
		for i, v := range variables {
			ones += m >> i & 1
			c = append(c, v*(1-2*(m>>i&1)))
		}
		if ones%2 != odd {
			f = append(f, c)
		}
	}
	return f
}

// holes returns the clauses that say that pigeons are in holes, no two of them in the same one.
func holes(pigeons, holes int) [][]int {
	var f [][]int
	for p := range pigeons {
		var c []int
		for h := range holes {
			c = append(c, p*holes+h+1)
			for q := range p {
				f = append(f, []int{-(p*holes + h + 1), -(q*holes + h + 1)})
			}
		}
		f = append(f, c)
	}
	return f
}

// hard returns formulas without models for which refutations are long.
func hard() []task {
	var ring [][]int
	for v := range 16 {
		ring = append(ring, parity(btoi(v == 0), v+1, (v+1)%16+1)...)
	}
	var grid [][]int
	for v := range 8 {
		// Each variable is in two of these sums, an odd number of which is odd.
		grid = append(grid, parity(btoi(v == 5), v+1, (v+1)%8+1, 9+v, 9+(v+3)%8)...)
	}
	l := []task{{cube(1, 7), 7}, {cube(10, 7), 16}, {cube(3, 6), 16}, {holes(4, 3), 12}, {holes(5, 3), 15}, {holes(3, 2), 6}, {ring, 16}, {grid, 16}}
	r := random(1)
	for k := range 30 {
		var f [][]int
		n := 16 - k/10
		for range 200 {
			f = append(f, plain(r, n, 3+k%3/2))
		}
		l = append(l, task{f, n})
	}
	for k := range l {
		f := slices.Clone(l[k].f)
		r.Shuffle(len(f), func(i, j int) { f[i], f[j] = f[j], f[i] })
		l = append(l, task{f, l[k].n})
	}
	return l
}

// extremes are numbers that are out of every range.
var extremes = []int{math.MinInt, math.MinInt + 1, -1 << 40, -1 << 32, -1<<32 - 1, 1 << 32, 1<<32 + 1, 1 << 40, math.MaxInt}

// invalid returns formulas that are not valid for their numbers of variables, each for one reason.
func invalid() map[string]task {
	l := map[string]task{
		"17 variables":           {nil, 17},
		"-1 variables":           {nil, -1},
		"201 clauses":            {slices.Repeat(clauses("(1 2)"), 201), 2},
		"201 empty clauses":      {make([][]int, 201), 0},
		"9 literals":             {clauses("(1) (1 2 3 4 5 6 7 8 9)"), 9},
		"9 equal literals":       {clauses("(1 1 1 1 1 1 1 1 1)"), 1},
		"9 literals of 1":        {clauses("(1 -1 1 -1 1 -1 1 -1 1) (1)"), 3},
		"a literal of none":      {clauses("(1)"), 0},
		"a negated one of none":  {clauses("() (-1)"), 0},
		"a literal beyond n":     {clauses("(1 2) (2 3 1)"), 2},
		"a negated one beyond n": {clauses("(1 2) (2 1 -3)"), 2},
		"0":                      {clauses("(1 2) (1 0 2)"), 2},
		"0 alone":                {clauses("(0)"), 16},
		"17":                     {clauses("(17)"), 16},
		"-17":                    {clauses("(16) (-17)"), 16},
		"17 of 17":               {clauses("(17)"), 17},
	}
	for _, x := range extremes {
		l["literal "+strconv.Itoa(x)] = task{[][]int{{1, 2}, {2, x}}, 16}
		l["n "+strconv.Itoa(x)] = task{clauses("(1 2)"), x}
	}
	return l
}

// each calls check for all elements of l, several at a time.
func each[T any](l []T, check func(x T)) {
	const workers = 8
	var w sync.WaitGroup
	for i := range workers {
		w.Go(func() {
			for j := i; j < len(l); j += workers {
				check(l[j])
			}
		})
	}
	w.Wait()
}

// refuted returns sample formulas that have no model, with refutations of at least two clauses.
func refuted(t *testing.T, seed uint64, count, most int) ([]task, [][][]int) {
	t.Helper()
	r := random(seed)
	var l []task
	var proofs [][][]int
	for len(l) < count {
		x := sample(r, most)
		_, p, ok, err := clause.Solve(x.f, x.n)
		if err != api.OK {
			t.Fatalf("%s: %v", text(x.f), err)
		}
		if !ok && len(p) > 1 {
			l, proofs = append(l, x), append(proofs, p)
		}
	}
	return l, proofs
}

func cloneAll(f [][]int) [][]int {
	c := slices.Clone(f)
	for i := range c {
		c[i] = slices.Clone(c[i])
	}
	return c
}

// same compares lists of clauses; nil and empty clauses are the same.
func same(f, g [][]int) bool {
	return slices.EqualFunc(f, g, func(c, d []int) bool { return slices.Equal(c, d) })
}
