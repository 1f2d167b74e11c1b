package clause_test

import (
	"slices"
	"strconv"
	"strings"
	"testing"

	"univocal/api"
	"univocal/clause"
)

// P12.1, L1: the limits of formulas.
func TestValid(t *testing.T) {
	for _, x := range []task{
		{nil, 0}, {nil, 1}, {nil, 16}, {clauses("()"), 0}, {clauses("() ()"), 16}, {clauses("(1)"), 1}, {clauses("(-1)"), 1}, {clauses("(16)"), 16}, {clauses("(-16)"), 16},
		{clauses("(1 -1)"), 1}, {clauses("(1 1 1 1 1 1 1 1)"), 1}, {clauses("(1 -2 3 -4 5 -6 7 -8)"), 8}, {clauses("(16 -15 14 -13 12 -11 10 -9) (1)"), 16},
		{slices.Repeat(clauses("(1 2)"), 200), 2}, {make([][]int, 200), 0}, {slices.Repeat(clauses("(-9 -10 -11 -12 -13 -14 -15 -16)"), 200), 16},
	} {
		if !clause.Valid(x.f, x.n) || !valid(x.f, x.n) {
			t.Errorf("%s is not valid for %d variables", text(x.f), x.n)
		}
	}
	for what, x := range invalid() {
		if clause.Valid(x.f, x.n) || valid(x.f, x.n) {
			t.Errorf("%s: %s is valid for %d variables", what, text(x.f), x.n)
		}
	}
}

// P12.1, L1: models satisfy every clause, and have a value for every variable.
func TestHolds(t *testing.T) {
	for _, c := range []struct {
		f, m string
		want bool
	}{
		{"", "", true}, {"", "F", true}, {"", "TFTFTFTFTFTFTFTF", true}, {"()", "", false}, {"()", "T", false}, {"(1) ()", "T", false}, {"() (1)", "T", false},
		{"(1)", "T", true}, {"(1)", "F", false}, {"(-1)", "F", true}, {"(-1)", "T", false}, {"(1)", "", false}, {"(1 -1)", "T", true}, {"(1 -1)", "F", true},
		{"(1 1)", "F", false}, {"(1 2)", "FF", false}, {"(1 2)", "FT", true}, {"(1 2)", "TF", true}, {"(1 2)", "TT", true}, {"(1 2)", "T", false}, {"(1 -2)", "FT", false},
		{"(1 -2)", "FF", true}, {"(1) (2)", "TT", true}, {"(1) (2)", "TF", false}, {"(1) (2)", "FT", false}, {"(1 2) (-1 2)", "FT", true}, {"(1 2) (-1 2)", "TF", false},
		{"(16)", "FFFFFFFFFFFFFFFT", true}, {"(16)", "TTTTTTTTTTTTTTTF", false}, {"(-16)", "TTTTTTTTTTTTTTTF", true}, {"(16)", "TTTTTTTTTTTTTTT", false},
		{"(-1)", "FTTTTTTTTTTTTTTT", true}, {"(1 2 3 4 5 6 7 8)", "FFFFFFFT", true}, {"(1 2 3 4 5 6 7 8)", "FFFFFFFF", false}, {"", "FFFFFFFFFFFFFFFFF", false},
		{"(1)", "TTTTTTTTTTTTTTTTT", false}, {"(17)", "TTTTTTTTTTTTTTTTT", false},
	} {
		if ok := clause.Holds(clauses(c.f), values(c.m)); ok != c.want {
			t.Errorf("%s at %s: %v", c.f, c.m, ok)
		}
	}
	for what, x := range invalid() {
		for _, value := range []bool{false, true} {
			if x.n >= 0 && x.n < 100 && clause.Holds(x.f, slices.Repeat([]bool{value}, x.n)) {
				t.Errorf("%s: %s holds where all variables are %v", what, text(x.f), value)
			}
		}
	}
	if clause.Holds(nil, make([]bool, 1<<16)) {
		t.Errorf("there are too many variables")
	}
}

// solved fails unless Solve returns the model of a text, or a refutation that is accepted if the text is "none".
func solved(t *testing.T, x task, want string) {
	t.Helper()
	m, p, ok, err := clause.Solve(x.f, x.n)
	switch {
	case err != api.OK || ok != (want != "none"):
		t.Errorf("%s: %v, %v, %v, %v", text(x.f), letters(m), text(p), ok, err)
	case ok && (letters(m) != want || len(p) > 0):
		t.Errorf("%s: %v, %v, want %s", text(x.f), letters(m), text(p), want)
	case !ok && (len(m) > 0 || !clause.Check(x.f, x.n, p) || !refutes(x.f, x.n, p)):
		t.Errorf("%s: %v, refutation %v", text(x.f), letters(m), text(p))
	}
}

// P12.1, L3: least models, among them those of the chapter's examples.
func TestSolve(t *testing.T) {
	for _, c := range []struct {
		f    string
		n    int
		want string
	}{
		{"(1 2) (-1 2)", 2, "FT"}, {"(1 2) (1 -2) (-1 2) (-1 -2)", 2, "none"}, {"(1) (-1) (2) (-2)", 2, "none"}, {"", 0, ""}, {"()", 0, "none"},
		{"", 1, "F"}, {"", 3, "FFF"}, {"", 16, strings.Repeat("F", 16)}, {"()", 16, "none"}, {"(1) () (2)", 2, "none"}, {"() ()", 0, "none"},
		{"(1)", 1, "T"}, {"(-1)", 1, "F"}, {"(1)", 3, "TFF"}, {"(2)", 3, "FTF"}, {"(3)", 3, "FFT"}, {"(1) (-1)", 1, "none"}, {"(1 1) (-1 -1 -1)", 1, "none"},
		{"(1 -1)", 1, "F"}, {"(1 -1) (1)", 1, "T"}, {"(1 -1 2)", 2, "FF"}, {"(1 2)", 2, "FT"}, {"(2 1)", 2, "FT"}, {"(1 2) (1 -2)", 2, "TF"}, {"(1 -2) (2 1) (2 -1)", 2, "TT"},
		{"(1 2 3)", 3, "FFT"}, {"(1 2) (-2 3)", 3, "FTT"}, {"(1 2) (-2)", 3, "TFF"}, {"(1 2) (-2 3) (-3 1)", 3, "TFF"}, {"(1 2) (-2 3) (-3 -2)", 3, "TFF"},
		{"(-1) (1 16)", 16, strings.Repeat("F", 15) + "T"}, {"(16 15) (-16 15)", 16, strings.Repeat("F", 14) + "TF"}, {"(16) (-16)", 16, "none"},
		{"(1 2 3) (-1 -2) (-1 -3) (-2 -3) (1 -3)", 3, "FTF"}, {"(1 2) (3 4) (-1 -3) (-2 -4)", 4, "FTTF"}, {"(1 2) (3 4) (-1 -3) (-2 -4) (-2 -3)", 4, "TFFT"},
	} {
		solved(t, task{clauses(c.f), c.n}, c.want)
	}
	for v := range 16 {
		// All variables from v on are true.
		f := [][]int{{v + 1}}
		for w := v + 1; w < 16; w++ {
			f = append(f, []int{-w, w + 1})
		}
		slices.Reverse(f)
		solved(t, task{f, 16}, strings.Repeat("F", v)+strings.Repeat("T", 16-v))
	}
	for what, x := range invalid() {
		if m, p, ok, err := clause.Solve(x.f, x.n); len(m) > 0 || len(p) > 0 || ok || err != api.ErrArg {
			t.Errorf("%s: %v, %v, %v, %v", what, m, p, ok, err)
		}
	}
}

// P12.1, L3: formulas of 200 clauses, of clauses of 8 literals, and of 16 variables.
func TestSolveLimits(t *testing.T) {
	solved(t, task{slices.Concat(slices.Repeat(clauses("(1 2)"), 198), clauses("(-2) (-1)")), 2}, "none")
	solved(t, task{slices.Concat(slices.Repeat(clauses("(1 2)"), 199), clauses("(-2)")), 2}, "TF")
	solved(t, task{cube(10, 7)[1:], 16}, strings.Repeat("F", 16))
	last := strings.Repeat("F", 9) + strings.Repeat("T", 7)
	solved(t, task{cube(10, 7)[:127], 16}, last)
	solved(t, task{cube(1, 7)[:127], 16}, last[9:]+last[:9])
	solved(t, task{cube(9, 8)[:200], 16}, strings.Repeat("F", 13)+"TTT")
	f := make([][]int, 16)
	for v := range f {
		f[v] = slices.Repeat([]int{v + 1}, 8)
	}
	solved(t, task{f, 16}, strings.Repeat("T", 16))
}

// P12.1, L5: cores, among them that of the chapter's example.
func TestCore(t *testing.T) {
	for _, c := range []struct {
		f    string
		n    int
		want string
	}{
		{"(1) (-1) (2) (-2)", 2, "0 1"}, {"(2) (1) (-2) (-1)", 2, "0 2"}, {"(2) (1) (-1) (-2)", 2, "1 2"}, {"(1 2) (1 -2) (-1 2) (-1 -2)", 2, "0 1 2 3"},
		{"()", 0, "0"}, {"() ()", 0, "0"}, {"() () ()", 5, "0"}, {"(1) () (-1) ()", 1, "1"}, {"() (1) (-1)", 1, "0"}, {"(1) (-1) ()", 1, "0 1"}, {"(1) () (-1)", 1, "1"},
		{"(1) (1) (-1)", 1, "0 2"}, {"(1) (-1) (-1)", 1, "0 1"}, {"(1 -1) (1) (2) (-1)", 2, "1 3"}, {"(3) (1 2) (1 -2) (-3 2) (-1 2) (-1 -2)", 3, "0 2 3 5"},
		{"(1 2) (1) (-1 2) (-2)", 2, "0 2 3"}, {"(1) (1 2) (-1 2) (-2)", 2, "0 2 3"}, {"(2 1) (-1 2) (-2) (1)", 2, "0 1 2"}, {"(1) (1 2) (-2) (-1)", 2, "0 3"}, {"(1 2) (-1) (-2) (1)", 2, "0 1 2"}, {"(16) (1) (-16)", 16, "0 2"},
		{"", 0, "none"}, {"", 16, "none"}, {"(1)", 1, "none"}, {"(1 2) (-1 2)", 2, "none"}, {"(1 2) (1 -2) (-1 2)", 2, "none"}, {"(1 -1)", 1, "none"},
	} {
		list, ok, err := clause.Core(clauses(c.f), c.n)
		if err != api.OK || ok != (c.want != "none") || ok && !slices.Equal(list, lits(c.want)) || !ok && len(list) > 0 {
			t.Errorf("%s: %v, %v, %v, want %s", c.f, list, ok, err, c.want)
		}
		if list, ok := core(clauses(c.f), c.n); ok != (c.want != "none") || ok && !slices.Equal(list, lits(c.want)) {
			t.Errorf("%s: %v, %v by definition, want %s", c.f, list, ok, c.want)
		}
	}
	for what, x := range invalid() {
		if list, ok, err := clause.Core(x.f, x.n); len(list) > 0 || ok || err != api.ErrArg {
			t.Errorf("%s: %v, %v, %v", what, list, ok, err)
		}
	}
}

// P12.1, L5: cores of formulas of 200 clauses.
func TestCoreLimits(t *testing.T) {
	many := slices.Concat(slices.Repeat(clauses("(1 2)"), 197), clauses("(-2) (3) (-1)"))
	if list, ok, err := clause.Core(many, 3); !ok || err != api.OK || !slices.Equal(list, []int{0, 197, 199}) {
		t.Errorf("%v, %v, %v", list, ok, err)
	}
	all := cube(10, 7)
	list, ok, err := clause.Core(append(all, all[:72]...), 16)
	if len(list) != 128 || !ok || err != api.OK {
		t.Errorf("%v, %v, %v", list, ok, err)
	}
	for i, k := range list {
		if k != i {
			t.Errorf("clause %s is in the core", strconv.Itoa(k))
		}
	}
}
