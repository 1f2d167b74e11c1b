package machine_test

import (
	"slices"
	"testing"

	"univocal/api"
	"univocal/automaton"
	"univocal/class"
	"univocal/machine"
)

// counter returns the machine whose states are the numbers below n, if these are at most 4096: a leads to the next one, b to
// the double, everything else to 0.
func counter(n int, accept func(s int) bool) (machine.Machine[int], bool) {
	cells := class.Cells([]api.Class{class.Of([]byte("a")), class.Of([]byte("b"))})
	return machine.Explore(cells, 0, func(s, c int) int { return []int{0, s + 1, 2 * s}[c] % n }, accept, 4096)
}

// Explore follows all transitions and numbers the states in the order of their least words.
func TestExplore(t *testing.T) {
	m, ok := counter(6, func(s int) bool { return s == 4 })
	if !ok || !slices.Equal(m.States, []int{0, 1, 2, 3, 4, 5}) || !slices.Equal(m.Accept, []bool{false, false, false, false, true, false}) {
		t.Fatalf("%v, %v", m, ok)
	}
	if !slices.EqualFunc(m.Next, [][]int{{0, 1, 0}, {0, 2, 2}, {0, 3, 4}, {0, 4, 0}, {0, 5, 2}, {0, 0, 4}}, slices.Equal) {
		t.Errorf("transitions: %v", m.Next)
	}
	for q, want := range []string{"", "a", "aa", "aaa", "aab", "aaba"} {
		if w := m.Word(q); string(w) != want {
			t.Errorf("state %d: %q, want %q", q, w, want)
		}
	}
	if w, some := m.Least(); !some || string(w) != "aab" {
		t.Errorf("least word: %q, %v", w, some)
	}
	m, _ = counter(6, func(int) bool { return false })
	if w, some := m.Least(); some || len(w) != 0 {
		t.Errorf("least word of no word: %q, %v", w, some)
	}
}

// Explore stops at more states than are allowed.
func TestExploreLimit(t *testing.T) {
	none := func(int) bool { return false }
	if m, ok := counter(4096, none); !ok || len(m.States) != 4096 || len(m.Next) != 4096 || len(m.Accept) != 4096 {
		t.Errorf("4096 states: %d, %v", len(m.States), ok)
	}
	if m, ok := counter(4097, none); ok || len(m.States) != 0 || len(m.Next) != 0 {
		t.Errorf("4097 states: %d, %v", len(m.States), ok)
	}
}

// The canonical automaton accepts the same words as the machine, however many states that has.
func TestCanonical(t *testing.T) {
	for _, n := range []int{1, 2, 7, 60, 64, 640, 4096} {
		// Each of these numbers is a multiple of the smaller one, so that the remainder is all that matters.
		few := min(n, 64)
		small, _ := counter(few, func(s int) bool { return s%5 == 1 })
		want, fails := automaton.Canon(api.DFA{Classes: small.Cells, Next: small.Next, Accept: small.Accept})
		m, _ := counter(n, func(s int) bool { return s%few%5 == 1 })
		if d, err := m.Canonical(); err != api.OK || fails != api.OK || !same(d, want) {
			t.Errorf("%d states: %v, %v, want %v, %v", n, d, err, want, fails)
		}
	}
	m, _ := counter(65, func(s int) bool { return s == 64 })
	if d, err := m.Canonical(); err != api.ErrBig || len(d.Classes)+len(d.Next)+len(d.Accept) != 0 {
		t.Errorf("65 states: %v, %v", d, err)
	}
}

func same(a, b api.DFA) bool {
	return slices.Equal(a.Classes, b.Classes) && slices.EqualFunc(a.Next, b.Next, slices.Equal) && slices.Equal(a.Accept, b.Accept)
}

// Walk follows more states than an automaton may have.
func TestWalkLong(t *testing.T) {
	d := api.DFA{Classes: class.Cells(nil), Accept: make([]bool, 5000)}
	for q := range d.Accept {
		d.Next = append(d.Next, []int{min(q+1, 4999)})
	}
	d.Accept[4999] = true
	if w, some := machine.Walk(d).Least(); !some || len(w) != 4999 {
		t.Errorf("least word: %d bytes, %v", len(w), some)
	}
}

// Walk leaves out the states that are not reached; Reader reads divided classes.
func TestWalk(t *testing.T) {
	cells := class.Cells([]api.Class{class.Of([]byte("b")), class.Of([]byte("a"))})
	d := api.DFA{Classes: []api.Class{class.Of([]byte("ab")), class.Not(class.Of([]byte("ab")))}, Next: [][]int{{2, 0}, {1, 1}, {0, 2}}, Accept: []bool{false, true, true}}
	m := machine.Walk(d)
	if !slices.Equal(m.States, []int{0, 2}) || !slices.EqualFunc(m.Next, [][]int{{0, 1}, {1, 0}}, slices.Equal) || !slices.Equal(m.Accept, []bool{false, true}) {
		t.Errorf("%v", m)
	}
	if w, some := m.Least(); !some || string(w) != "a" {
		t.Errorf("least word: %q, %v", w, some)
	}
	next := machine.Reader(d, cells)
	for q, want := range [][]int{{0, 2, 2}, {1, 1, 1}, {2, 0, 0}} {
		for c, to := range want {
			if next(q, c) != to {
				t.Errorf("from %d by cell %d: %d, want %d", q, c, next(q, c), to)
			}
		}
	}
}
