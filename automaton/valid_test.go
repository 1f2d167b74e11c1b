package automaton_test

import (
	"slices"
	"testing"

	"univocal/api"
	"univocal/automaton"
)

// ab is the canonical automaton of the word "ab".
func ab() api.DFA {
	return api.DFA{
		Classes: []api.Class{besides("ab"), classOf("a"), classOf("b")},
		Next:    [][]int{{1, 2, 1}, {1, 1, 1}, {1, 1, 3}, {1, 1, 1}},
		Accept:  []bool{false, false, false, true},
	}
}

// wide returns an automaton with n states and 256 classes.
func wide(n int) api.DFA {
	d := api.DFA{Accept: make([]bool, n)}
	for b := range 256 {
		d.Classes = append(d.Classes, classOf(string([]byte{byte(255 - b)})))
	}
	for q := range n {
		row := make([]int, 256)
		row[q] = n - 1
		d.Next = append(d.Next, row)
	}
	return d
}

// broken changes a valid automaton, so that it is no longer valid.
var broken = map[string]func(d *api.DFA){
	"no classes":                    func(d *api.DFA) { d.Classes = nil },
	"no classes in the rows either": func(d *api.DFA) { *d = api.DFA{Next: [][]int{{}}, Accept: []bool{true}} },
	"empty class":                   func(d *api.DFA) { d.Classes = append(d.Classes, api.Class{}); widen(d) },
	"only an empty class":           func(d *api.DFA) { d.Classes[1] = api.Class{} },
	"a byte in two classes":         func(d *api.DFA) { d.Classes[1] = classOf("ab") },
	"a byte in two of three":        func(d *api.DFA) { d.Classes[2] = classOf("ac") },
	"one class twice":               func(d *api.DFA) { d.Classes = append(d.Classes, classOf("a")); widen(d) },
	"a byte in no class":            func(d *api.DFA) { d.Classes[0] = besides("abc") },
	"byte 0 in no class":            func(d *api.DFA) { d.Classes[0] = besides("ab\x00") },
	"byte 255 in no class":          func(d *api.DFA) { d.Classes[0] = besides("ab\xff") },
	"too few classes":               func(d *api.DFA) { d.Classes = d.Classes[:2] },
	"no states":                     func(d *api.DFA) { d.Next, d.Accept = nil, nil },
	"no rows":                       func(d *api.DFA) { d.Next = nil },
	"no acceptance":                 func(d *api.DFA) { d.Accept = nil },
	"too few rows":                  func(d *api.DFA) { d.Next = [][]int{{1, 2, 1}, {1, 1, 1}, {1, 1, 0}} },
	"too many rows":                 func(d *api.DFA) { d.Next = append(d.Next, []int{0, 0, 0}) },
	"too little acceptance":         func(d *api.DFA) { d.Accept = d.Accept[:3] },
	"too much acceptance":           func(d *api.DFA) { d.Accept = append(d.Accept, true) },
	"a nil row":                     func(d *api.DFA) { d.Next[3] = nil },
	"a short row":                   func(d *api.DFA) { d.Next[0] = d.Next[0][:2] },
	"a long row":                    func(d *api.DFA) { d.Next[3] = append(d.Next[3], 0) },
	"a negative target":             func(d *api.DFA) { d.Next[3][2] = -1 },
	"a target beyond the states":    func(d *api.DFA) { d.Next[0][0] = 4 },
	"a huge target":                 func(d *api.DFA) { d.Next[1][1] = 1<<63 - 1 },
	"a huge negative target":        func(d *api.DFA) { d.Next[1][1] = -1 << 63 },
	"65 states":                     func(d *api.DFA) { *d = wide(65) },
	"65 states, 64 rows":            func(d *api.DFA) { *d = wide(64); d.Accept = append(d.Accept, true) },
	"256 classes and one":           func(d *api.DFA) { *d = wide(64); d.Classes = append(d.Classes, classOf("a")); widen(d) },
	"256 classes and an empty one":  func(d *api.DFA) { *d = wide(2); d.Classes = append(d.Classes, api.Class{}); widen(d) },
	"the zero value":                func(d *api.DFA) { *d = api.DFA{} },
}

// widen appends a column to the rows.
func widen(d *api.DFA) {
	for q := range d.Next {
		d.Next[q] = append(d.Next[q], 0)
	}
}

// invalid returns automata that are not valid, each for one reason.
func invalid() map[string]api.DFA {
	l := map[string]api.DFA{}
	for what, change := range broken {
		d := ab()
		change(&d)
		l[what] = d
	}
	return l
}

// P3.1, C1: Valid rejects automata that break one of the conditions.
func TestInvalid(t *testing.T) {
	for what, d := range invalid() {
		if automaton.Valid(d) {
			t.Errorf("%s: %v is valid", what, d)
		}
	}
}

// P3.1, C1: Valid accepts all others, also those that are not canonical.
func TestValid(t *testing.T) {
	l := append(samples(40), ab(), wide(1), wide(2), wide(64))
	// Some states are not reached, and classes are in another order.
	l = append(l, api.DFA{Classes: []api.Class{all}, Next: [][]int{{0}, {1}, {0}}, Accept: []bool{true, false, true}})
	l = append(l, api.DFA{Classes: []api.Class{classOf("b"), besides("b")}, Next: [][]int{{0, 0}}, Accept: []bool{true}})
	l = append(l, api.DFA{Classes: []api.Class{all}, Next: make([][]int, 64), Accept: make([]bool, 64)})
	for q := range 64 {
		l[len(l)-1].Next[q] = []int{63 - q}
	}
	for _, d := range l {
		if !automaton.Valid(d) {
			t.Errorf("%v is not valid", d)
		}
	}
}

// P3.1, C1: Accepts follows the targets of the classes.
func TestAccepts(t *testing.T) {
	for _, d := range append(samples(60), ab()) {
		u := unfold(d)
		for _, w := range words(alphabet(d), 4) {
			if automaton.Accepts(d, []byte(w)) != u.accepts(w) {
				t.Fatalf("%v, %q: got %v", d, w, !u.accepts(w))
			}
		}
	}
	for w, want := range map[string]bool{"ab": true, "": false, "a": false, "abb": false, "ba": false, "aab": false, "b": false, "AB": false, "a\x00b": false} {
		if automaton.Accepts(ab(), []byte(w)) != want {
			t.Errorf("%q: got %v", w, !want)
		}
	}
}

// P3.1, C1: every byte is read as a member of its class.
func TestAcceptsAllBytes(t *testing.T) {
	d := wide(64)
	d.Accept[63] = true
	for b := range 256 {
		if got := automaton.Accepts(d, []byte{byte(b)}); got != (b == 255) {
			t.Errorf("byte %d: got %v", b, got)
		}
		if got := automaton.Accepts(d, []byte{255, byte(b)}); got != (b == 255-63) {
			t.Errorf("byte 255 and byte %d: got %v", b, got)
		}
	}
}

// P3.1, C1: an automaton that is not valid accepts nothing.
func TestAcceptsInvalid(t *testing.T) {
	for what, d := range invalid() {
		for _, w := range []string{"", "a", "ab", "ba", "\x00\xff"} {
			if automaton.Accepts(d, []byte(w)) {
				t.Errorf("%s: %q is accepted", what, w)
			}
		}
	}
	d := ab()
	d.Accept[0] = true
	d.Next[1][0] = 9
	if automaton.Accepts(d, nil) || automaton.Accepts(d, []byte("ab")) {
		t.Error("a word that does not lead through the wrong target is accepted")
	}
}

// P3.1, C1: long words are read to their ends.
func TestAcceptsLong(t *testing.T) {
	d := api.DFA{Classes: []api.Class{besides("x"), classOf("x")}}
	for q := range 64 {
		d.Next = append(d.Next, []int{q, (q + 1) % 64})
		d.Accept = append(d.Accept, q == 63)
	}
	w := slices.Repeat([]byte("xyz"), 5*64+63)
	if !automaton.Accepts(d, w) || automaton.Accepts(d, w[1:]) || automaton.Accepts(d, append(w, 'x')) {
		t.Error("the number of x is not counted modulo 64")
	}
}
