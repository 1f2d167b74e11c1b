package lengths_test

import (
	"math"
	"testing"

	"univocal/api"
	"univocal/lengths"
)

// P5.1, E1: a set has a cycle, and 512 elements at the most.
func TestValid(t *testing.T) {
	for _, l := range []api.Lengths{
		set("|0"), set("1|1"), {Cycle: make([]bool, 512)}, {Head: make([]bool, 511), Cycle: []bool{true}},
		{Head: make([]bool, 256), Cycle: make([]bool, 256)}, {Head: []bool{}, Cycle: []bool{false, true}},
	} {
		if !lengths.Valid(l) {
			t.Errorf("a head of %d and a cycle of %d are not valid", len(l.Head), len(l.Cycle))
		}
	}
	for _, l := range invalid() {
		if lengths.Valid(l) {
			t.Errorf("a head of %d and a cycle of %d are valid", len(l.Head), len(l.Cycle))
		}
	}
}

// P5.1, E4: Has follows the definition of membership.
func TestHas(t *testing.T) {
	for _, l := range append(all(5), samples(40)...) {
		for n := range 1200 {
			if lengths.Has(l, n) != member(l, n) {
				t.Fatalf("Has(%s, %d) is wrong", text(l), n)
			}
		}
		for _, n := range []int{-1, -2, -len(l.Cycle), -512, math.MinInt} {
			if lengths.Has(l, n) {
				t.Fatalf("Has(%s, %d)", text(l), n)
			}
		}
		for _, n := range []int{math.MaxInt, math.MaxInt - 1, 1 << 40} {
			if lengths.Has(l, n) != member(l, n) {
				t.Fatalf("Has(%s, %d) is wrong", text(l), n)
			}
		}
	}
	for i, l := range invalid() {
		for _, n := range []int{-1, 0, 1, 299, 511, 512} {
			if lengths.Has(l, n) {
				t.Errorf("invalid set %d has %d", i, n)
			}
		}
	}
}

// least searches for the least member by its definition. A number of cycles behind the head is as good as any other.
func least(l api.Lengths, from int) int {
	for n := max(from, 0); n < max(from, 0)+1100; n++ {
		if member(l, n) {
			return n
		}
	}
	return -1
}

// P5.1, E7: Least returns the first member from a number on.
func TestLeast(t *testing.T) {
	for _, l := range append(all(5), samples(40)...) {
		for _, from := range []int{math.MinInt, -513, -1, 0, 1, 2, 3, 4, 5, 6, 7, 11, 12, 13, 59, 60, 505, 511, 512, 513, 5000, 1<<40 - 7, 1<<40 - 1, 1 << 40} {
			if got, want := lengths.Least(l, from), least(l, from); got != want {
				t.Fatalf("Least(%s, %d) is %d, want %d", text(l), from, got, want)
			}
		}
	}
}

// P5.1, E7: the chapter's examples, the greatest number from which Least searches, and sets without a result.
func TestLeastEdges(t *testing.T) {
	sum, err := lengths.Sum(set("|10"), set("0001|0"))
	ok(t, "Sum", sum, err)
	last := api.Lengths{Head: make([]bool, 3), Cycle: make([]bool, 509)}
	last.Cycle[508] = true
	for _, c := range []struct {
		l          api.Lengths
		from, want int
	}{
		{sum, 4, 5}, {set("|0"), 0, -1}, {set("111|0"), 2, 2}, {set("111|0"), 3, -1}, {set("1|0"), -9, 0},
		{set("|1"), 1 << 40, 1 << 40}, {set("|1"), 1<<40 + 1, -1}, {set("|1"), math.MaxInt, -1},
		{set("|10"), 1<<40 - 1, 1 << 40}, {set("|01"), 1 << 40, 1<<40 + 1}, {last, 0, 511}, {last, 512, 1020},
	} {
		if got := lengths.Least(c.l, c.from); got != c.want {
			t.Errorf("Least(%s, %d) is %d, want %d", text(c.l), c.from, got, c.want)
		}
	}
	for i, l := range invalid() {
		for _, from := range []int{-1, 0, 1, 511} {
			if got := lengths.Least(l, from); got != -1 {
				t.Errorf("invalid set %d, from %d: %d", i, from, got)
			}
		}
	}
}
