package rows

import "univocal/api"

// An interval contains the values of a variable from low to high. The rows lowRow and highRow of the branch say that no
// others are left.
type interval struct{ low, high, lowRow, highRow int }

// A box contains the points whose variables are in intervals, of which a system uses the first ones.
type box [api.MaxVars]interval

// whole returns the box of all candidate points of a valid system, and the number of rows of the first branch.
func whole(s api.System) (b box, size int) {
	n := len(s.Top)
	size = len(s.Rows)
	for i, top := range s.Top {
		b[i] = interval{0, top, size + i, size + n + i}
	}
	return b, size + 2*n
}

// failing returns the index of the first row that holds at no point of a box because its greatest value is negative, and -1
// if there is none.
func failing(rows []api.Row, b box) int {
	for k, r := range rows {
		greatest := r.C
		for i, a := range r.A {
			greatest += max(a*b[i].low, a*b[i].high)
		}
		if greatest < 0 {
			return k
		}
	}
	return -1
}

// open returns the first of n variables that has several values in a box, and n if there is none.
func open(b box, n int) int {
	for i, v := range b[:n] {
		if v.low < v.high {
			return i
		}
	}
	return n
}

// halves divides a box by the values of variable i, which has several. If the variables before i have one value each, all
// points of the first half precede those of the second one.
func halves(b box, i int) (box, box) {
	first, second := b, b
	first[i].high = (b[i].low + b[i].high) / 2
	second[i].low = first[i].high + 1
	return first, second
}

// solvable reports whether a box contains a solution.
func solvable(s api.System, b box) bool {
	if failing(s.Rows, b) >= 0 {
		return false
	}
	i := open(b, len(s.Top))
	if i == len(s.Top) {
		// In the box of a single point a row that does not fail holds.
		return true
	}
	first, second := halves(b, i)
	return solvable(s, first) || solvable(s, second)
}

// A solution is the value of the panic by which a search is left.
type solution []int

// A search appends the steps of a refutation of a system. It needs at most three steps for each candidate point, so that the
// steps of a small system are fewer than MaxProof: a sum and a close for each box that is not divided, and a split for each
// other box, of which there are fewer.
type search struct {
	api.System
	steps api.RowProof
}

// refute appends steps that refute the system within a box, whose branch has size rows. If the box contains a solution, it
// leaves the search with the least one.
func (f *search) refute(b box, size int) {
	if k := failing(f.Rows, b); k >= 0 {
		f.exclude(k, b, size)
		return
	}
	i := open(b, len(f.Top))
	if i == len(f.Top) {
		var x solution
		for _, v := range b[:i] {
			x = append(x, v.low)
		}
		panic(x)
	}
	first, second := halves(b, i)
	first[i].highRow, second[i].lowRow = size, size
	at := len(f.steps)
	f.steps = append(f.steps, api.RowStep{Kind: api.RwSplit, X: i, K: first[i].high, Next: at + 1})
	f.refute(first, size+1)
	f.steps[at].Else = len(f.steps)
	f.refute(second, size+1)
}

// exclude appends steps that refute row k within a box in which it fails: the sum with the rows of the bounds at which its
// value is the greatest is this value alone.
func (f *search) exclude(k int, b box, size int) {
	m := make([]int, size)
	m[k] = 1
	for i, a := range f.Rows[k].A {
		if a > 0 {
			m[b[i].highRow] = a
		} else {
			m[b[i].lowRow] = -a
		}
	}
	at := len(f.steps)
	f.steps = append(f.steps, api.RowStep{Kind: api.RwSum, M: m, Next: at + 1}, api.RowStep{Kind: api.RwClose})
}
