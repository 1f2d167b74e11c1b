package lengths_test

import (
	"testing"

	"univocal/api"
	"univocal/lengths"
)

// summed returns which numbers below n are sums of a member of each set.
func summed(a, b api.Lengths, n int) []bool {
	l := make([]bool, n)
	for x := range n {
		for y := 0; member(a, x) && x+y < n; y++ {
			l[x+y] = l[x+y] || member(b, y)
		}
	}
	return l
}

// checkSum checks Sum of two sets. A sum that is greater than both heads and the product of both cycles twice has a part that
// is greater than its head and this product, so that the sum less the product is a sum as well.
func checkSum(t *testing.T, a, b api.Lengths) {
	t.Helper()
	p, q := len(a.Cycle), len(b.Cycle)
	start := len(a.Head) + len(b.Head) + p*q
	got, err := lengths.Sum(a, b)
	check(t, "Sum of "+text(a)+" and "+text(b), got, err, summed(a, b, start+2*p*q), start)
}

// P5.1, P5.4, E6: Sum returns the canonical form of the sums, for all pairs of small sets.
func TestSumSmall(t *testing.T) {
	sets := all(4)
	for _, a := range sets {
		for _, b := range sets {
			checkSum(t, a, b)
		}
	}
}

// P5.1, P5.4, E6: larger sets.
func TestSumSamples(t *testing.T) {
	s := sequence()
	for range 150 {
		checkSum(t, s.some(40, 25), s.some(40, 25))
	}
	for range 150 {
		// Members are rare, so that many sums are reached late.
		a, b := s.some(6, 30), s.some(6, 30)
		for _, l := range []api.Lengths{a, b} {
			clear(l.Cycle)
			l.Cycle[s.next(len(l.Cycle))] = true
		}
		checkSum(t, a, b)
	}
}

// P5.1, E6: the chapter's example and other sums.
func TestSumExamples(t *testing.T) {
	for _, c := range [][3]string{
		{"|10", "0001|0", "00|01"}, {"|0", "|1", "|0"}, {"|0", "|0", "|0"}, {"1|0", "|10", "|10"}, {"1|0", "1|0", "1|0"},
		{"|1", "|1", "|1"}, {"|1", "0001|0", "000|1"}, {"01|0", "011|0", "0011|0"}, {"|100", "|10000", "10010110|1"},
		{"|10", "|1000", "|10"}, {"|01", "|01", "00|10"}, {"1|010", "|100", "|101"},
		{"1001|0", "|10", "101|1"}, {"1|000001", "1|000001", "1000001|000001"},
	} {
		want := text(canon(t, set(c[2])))
		for _, args := range [][2]string{{c[0], c[1]}, {c[1], c[0]}} {
			if got, err := lengths.Sum(set(args[0]), set(args[1])); err != api.OK || text(got) != want {
				t.Errorf("Sum of %s and %s is %s, %v, want %s", args[0], args[1], text(got), err, want)
			}
		}
	}
}

// P5.1, E6: results with 512 elements and with more. The greatest number that is no sum of multiples of coprime numbers m
// and n is m n - m - n.
func TestSumBig(t *testing.T) {
	for _, c := range []struct {
		m, n, by, head, cycle int
	}{
		{23, 24, 0, 506, 1}, {23, 24, 5, 511, 1}, {23, 24, 6, 0, 0}, {24, 25, 0, 0, 0}, {2, 511, 0, 510, 1}, {2, 511, 1, 511, 1},
		{2, 512, 0, 0, 2}, {512, 512, 0, 0, 512}, {511, 511, 1, 0, 511}, {511, 512, 0, 0, 0},
		{46, 48, 0, 1011, 2}, {22, 24, 0, 219, 2}, {510, 511, 1, 0, 0}, {256, 192, 0, 321, 64}, {1, 500, 12, 12, 1},
	} {
		got, err := lengths.Sum(shifted(c.m, c.by), shifted(c.n, 0))
		if c.cycle == 0 || c.head+c.cycle > 512 {
			if err != api.ErrBig || !zero(got) {
				t.Errorf("multiples of %d and %d, shifted by %d: %s, %v", c.m, c.n, c.by, text(got), err)
			}
		} else if err != api.OK || len(got.Head) != c.head || len(got.Cycle) != c.cycle {
			t.Errorf("multiples of %d and %d, shifted by %d: %s, %v", c.m, c.n, c.by, text(got), err)
		}
	}
	// The finite sets reach up to 510 and 511.
	a, b := api.Lengths{Head: make([]bool, 256), Cycle: []bool{false}}, api.Lengths{Head: make([]bool, 257), Cycle: []bool{false}}
	a.Head[255], b.Head[255] = true, true
	got, err := lengths.Sum(a, b)
	if ok(t, "Sum", got, err); len(got.Head) != 511 || lengths.Least(got, 0) != 510 {
		t.Errorf("255 and 255: %s", text(got))
	}
	b.Head[256] = true
	if got, err := lengths.Sum(a, b); err != api.ErrBig || !zero(got) {
		t.Errorf("255 and 256: %s, %v", text(got), err)
	}
	// The sum is small although the sets between it and its arguments are large.
	if got, err := lengths.Sum(multiples(511, 1), set("|0")); err != api.OK || text(got) != "|0" {
		t.Errorf("no sums: %s, %v", text(got), err)
	}
	all, odd := api.Lengths{Cycle: table(511, func(n int) bool { return n < 510 })}, api.Lengths{Cycle: table(510, func(n int) bool { return n < 2 })}
	if got, err := lengths.Sum(all, odd); err != api.OK || text(got) != "|1" {
		t.Errorf("all sums: %s, %v", text(got), err)
	}
}

// P5.4: sums are commutative and associative, distribute over Or, and have the set of 0 as their unit.
func TestSumLaws(t *testing.T) {
	s := sequence()
	sum := func(a, b api.Lengths) api.Lengths {
		l, err := lengths.Sum(a, b)
		return ok(t, "Sum", l, err)
	}
	or := func(a, b api.Lengths) api.Lengths {
		l, err := lengths.Or(a, b)
		return ok(t, "Or", l, err)
	}
	for range 200 {
		a, b, c := s.some(9, 5), s.some(9, 5), s.some(9, 5)
		if !same(sum(a, b), sum(b, a)) || !same(sum(sum(a, b), c), sum(a, sum(b, c))) || !same(sum(a, or(b, c)), or(sum(a, b), sum(a, c))) ||
			!same(sum(a, set("1|0")), canon(t, a)) || !same(sum(a, set("|0")), set("|0")) {
			t.Fatalf("Sum of %s, %s and %s breaks a law", text(a), text(b), text(c))
		}
	}
}
