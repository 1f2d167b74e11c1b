package clause_test

import (
	"slices"
	"strconv"
	"testing"

	"univocal/clause"
)

// checked fails unless Check, and the definition, give want.
func checked(t *testing.T, what string, x task, p [][]int, want bool) {
	t.Helper()
	if ok := clause.Check(x.f, x.n, p); ok != want {
		t.Errorf("%s: Check(%s, %d, %s) is %v", what, text(x.f), x.n, text(p), ok)
	}
	if ok := refutes(x.f, x.n, p); ok != want {
		t.Errorf("%s: Check(%s, %d, %s) is %v by definition", what, text(x.f), x.n, text(p), ok)
	}
}

// P12.1, L4: what follows by unit propagation, among them the chapter's examples.
func TestCheck(t *testing.T) {
	const four = "(1 2) (1 -2) (-1 2) (-1 -2)"
	const eight = "(1 2 3) (1 2 -3) (1 -2 3) (1 -2 -3) (-1 2 3) (-1 2 -3) (-1 -2 3) (-1 -2 -3)"
	for _, c := range []struct {
		f    string
		n    int
		p    string
		want bool
	}{
		{four, 2, "(1) ()", true}, {four, 2, "(-1) ()", true}, {four, 2, "(2) ()", true}, {four, 2, "(-2) ()", true}, {four, 3, "(1) ()", true}, {four, 16, "(1) ()", true},
		{four, 2, "", false}, {four, 2, "()", false}, {four, 2, "(1)", false}, {four, 2, "(1) (2)", false}, {four, 2, "() (1)", false}, {four, 2, "() ()", false}, {four, 2, "() (1) ()", false},
		{four, 2, "(1) () ()", true}, {four, 2, "(1) () (2) ()", true}, {four, 2, "(1) () (2)", false}, {four, 2, "(1) (-1) ()", true}, {four, 2, "(1) (2) (1 2) (1) ()", true}, {four, 2, "(1 2) ()", false},
		{four, 3, "(3) ()", false}, {four, 3, "(3 1) ()", false}, {four, 3, "(3 1) (1) ()", true}, {four, 3, "(1) () (3) ()", true}, {four, 3, "(1) (3) ()", true}, {four, 3, "(1 -3) (1 3) ()", false}, {four, 3, "(1 -3) (3 1) (1) ()", true},
		{four, 2, "(1 -1) (1) ()", true}, {four, 2, "(1 -1) ()", false}, {four, 2, "(2 1 -2) (1 1 1) ()", true}, {four, 3, "(3 -3) (1) ()", true},
		{four, 2, "(3) (1) ()", false}, {four, 2, "(1) (3) ()", false}, {four, 2, "(1) () (-3) ()", false}, {four, 2, "(1) () (0) ()", false}, {four, 2, "(0) (1) ()", false}, {four, 1, "(1) ()", false}, {four, 17, "(1) ()", false}, {four, -1, "(1) ()", false},
		{four, 2, "(1 1 1 1 1 1 1 1 1 1 1 1 1 1 1 1) ()", true}, {four, 2, "(1 1 1 1 1 1 1 1 1 1 1 1 1 1 1 1 1) ()", false}, {four, 2, "(1) () (1 1 1 1 1 1 1 1 1 1 1 1 1 1 1 1 1) ()", false},
		{four, 16, "(1 2 3 4 5 6 7 8 9 10 11 12 13 14 15 16) (1) ()", true}, {four, 16, "(16) (1) ()", false}, {four, 16, "(1) (16) ()", true}, {four, 16, "(1) (17) ()", false}, {four, 16, "(1) (-16) ()", true}, {four, 16, "(1) (-17) ()", false},
		{eight, 3, "(1 2) (1) (2) ()", true}, {eight, 3, "(1) (1 2) (2) ()", false}, {eight, 3, "(1 2) (1) ()", false}, {eight, 3, "(1 2) (2) ()", false}, {eight, 3, "(1 2) (1) (-1 2) ()", true},
		{eight, 3, "(1 2) (1 3) (2 3) (1) ()", false}, {eight, 3, "(1 2) (1 3) (2 3) (1) (2) ()", true}, {eight, 3, "(1 2) (1) () (2)", false}, {eight, 3, "(3 2) (3) (1) ()", true}, {eight, 3, "(3 2) (-3 2) (2) (3) ()", true},
		{"()", 0, "()", true}, {"()", 0, "", false}, {"()", 0, "() ()", true}, {"()", 0, "(1) ()", false}, {"()", 1, "(1) ()", true}, {"()", 1, "(1)", false}, {"(1) ()", 1, "()", true}, {"(1) (-1)", 1, "()", true}, {"(1) (-1)", 1, "", false},
		{"(1) (-1 2) (-2)", 2, "()", true}, {"(-2) (-1 2) (1)", 2, "()", true}, {"(-1 2) (-2)", 2, "()", false}, {"(-1 2) (-2)", 2, "(-1) ()", false}, {"(-1 2) (1 2)", 2, "(2) ()", false},
		{"", 0, "()", false}, {"", 0, "", false}, {"", 1, "(1 -1) ()", false}, {"", 1, "(1) ()", false}, {"", 1, "(1) (-1) ()", false}, {"(1 -1)", 1, "()", false}, {"(1 -1)", 1, "(1) ()", false}, {"(1)", 1, "()", false}, {"(1)", 1, "(1) ()", false}, {"(1)", 1, "(-1) ()", false},
	} {
		checked(t, "by hand", task{clauses(c.f), c.n}, clauses(c.p), c.want)
	}
	for what, x := range invalid() {
		for _, p := range []string{"", "()", "(1) ()", "(1 -1) ()"} {
			checked(t, what, x, clauses(p), false)
			checked(t, what+" with an empty clause", task{append([][]int{nil}, x.f...), x.n}, clauses(p), false)
		}
	}
	for _, x := range extremes {
		checked(t, strconv.Itoa(x), task{clauses(four), 16}, [][]int{{1}, {x}, {}}, false)
		checked(t, strconv.Itoa(x), task{clauses("()"), 16}, [][]int{{1, x}, {}}, false)
	}
}

// P12.1, L4: refutations may have more clauses than formulas.
func TestCheckMany(t *testing.T) {
	x := task{clauses("(1 2) (1 -2) (-1 2) (-1 -2)"), 16}
	p := slices.Repeat(clauses("(1 3) (1 4 5) (-3 1)"), 1000)
	checked(t, "open", x, p, false)
	if p = append(p, nil); clause.Check(x.f, x.n, p) {
		t.Errorf("nothing follows without a clause of one literal")
	}
	if p = slices.Insert(p, 3000, lits("1")); !clause.Check(x.f, x.n, p) {
		t.Errorf("a refutation with repetitions is not accepted")
	}
	if p[2999] = lits("5 6"); clause.Check(x.f, x.n, p) {
		t.Errorf("a clause that does not follow is accepted")
	}
}

// P12.2, P12.8, L4: each number of refutations is changed, and each clause of them removed, repeated or moved.
func TestCheckDamaged(t *testing.T) {
	l, proofs := refuted(t, 2, 150, 6)
	r := random(3)
	for k, x := range l {
		p := proofs[k]
		checked(t, "as it is", x, p, true)
		compare := func(what string, p [][]int) {
			t.Helper()
			checked(t, what, x, p, refutes(x.f, x.n, p))
		}
		for i := range p {
			compare("removed", slices.Delete(cloneAll(p), i, i+1))
			checked(t, "repeated", x, slices.Insert(cloneAll(p), i, p[i]), true)
			moved := cloneAll(p)
			j := r.IntN(len(p))
			moved[i], moved[j] = moved[j], moved[i]
			compare("exchanged", moved)
			longer := cloneAll(p)
			longer[i] = append(longer[i], literal(r, x.n))
			compare("a literal more", longer)
			for j := range p[i] {
				for _, l := range []int{0, x.n + 1, -x.n - 1, -p[i][j], literal(r, x.n)} {
					changed := cloneAll(p)
					changed[i][j] = l
					compare("changed", changed)
				}
				shorter := cloneAll(p)
				shorter[i] = slices.Delete(shorter[i], j, j+1)
				compare("a literal less", shorter)
			}
		}
	}
}
