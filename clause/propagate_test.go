package clause_test

import (
	"slices"
	"testing"

	"univocal/clause"
)

// P12.1, L2: consequences and conflicts, among them those of the chapter's example.
func TestPropagate(t *testing.T) {
	for _, c := range []struct{ f, l, want string }{
		{"(1 2) (-1 2)", "-1", "-1 2"}, {"(1 2) (-1 2)", "-2", "conflict"}, {"(1 2) (-1 2)", "", ""}, {"(1 2) (-1 2)", "1", "1 2"}, {"(1 2) (-1 2)", "2", "2"},
		{"", "", ""}, {"", "1", "1"}, {"", "-1", "-1"}, {"", "1 1 1", "1"}, {"", "3 -1 2", "-1 2 3"}, {"", "16 -15", "-15 16"}, {"", "-16 1", "1 -16"},
		{"", "1 -1", "conflict"}, {"", "2 3 -1 -3", "conflict"}, {"(5)", "1 -1", "conflict"}, {"()", "", "conflict"}, {"()", "1", "conflict"}, {"(1) () (2)", "", "conflict"},
		{"(1)", "", "1"}, {"(-1)", "", "-1"}, {"(1 1)", "", "1"}, {"(-1 -1 -1)", "", "-1"}, {"(1)", "1", "1"}, {"(1)", "-1", "conflict"}, {"(1 1)", "-1", "conflict"}, {"(-1)", "1", "conflict"},
		{"(1) (-1)", "", "conflict"}, {"(1) (-1)", "2", "conflict"}, {"(1 -1)", "", ""}, {"(1 -1)", "1", "1"}, {"(1 -1)", "-1", "-1"}, {"(1 -1 2)", "-2", "-2"}, {"(1 2 -1)", "", ""},
		{"(1 1 2)", "-2", "1 -2"}, {"(1 2 1)", "-2", "1 -2"}, {"(2 1 1)", "-2", "1 -2"}, {"(1 2 1)", "-1", "-1 2"}, {"(1 2 2 1)", "", ""}, {"(1 1 2)", "-1 -2", "conflict"},
		{"(1 2) (1 -2)", "", ""}, {"(1 2) (1 -2)", "-1", "conflict"}, {"(1 2) (1 -2)", "2", "1 2"}, {"(1 2 3)", "-1", "-1"}, {"(1 2 3)", "-1 -3", "-1 2 -3"}, {"(1 2 3)", "-1 2", "-1 2"},
		{"(1 2 3)", "-1 -2 -3", "conflict"}, {"(-1 -2 -3)", "1 3", "1 -2 3"}, {"(-1 2) (-2 3) (-3 4)", "1", "1 2 3 4"}, {"(-3 4) (-2 3) (-1 2)", "1", "1 2 3 4"},
		{"(-3 4) (-2 3) (-1 2)", "-4", "-1 -2 -3 -4"}, {"(-3 4) (-2 3) (-1 2)", "1 -4", "conflict"}, {"(-3 -1) (-2 3) (-1 2)", "1", "conflict"}, {"(1 2) (3 4) (5 6)", "-1 -4 5", "-1 2 3 -4 5"},
		{"(-15 16) (-14 15) (-13 14) (-12 13) (-11 12) (-10 11) (-9 10) (-8 9) (-7 8) (-6 7) (-5 6) (-4 5) (-3 4) (-2 3) (-1 2) (1)", "", "1 2 3 4 5 6 7 8 9 10 11 12 13 14 15 16"},
		{"(-1 -2 -3 -4 -5 -6 -7 8)", "7 6 5 4 3 2 1", "1 2 3 4 5 6 7 8"}, {"(1 2 3 4 5 6 7 8)", "-8 -7 -6 -5 -4 -3 -2 -1", "conflict"},
	} {
		l, ok := clause.Propagate(clauses(c.f), lits(c.l))
		if ok != (c.want != "conflict") || ok && !slices.Equal(l, lits(c.want)) || !ok && len(l) > 0 {
			t.Errorf("%s from %s: %v, %v", c.f, c.l, l, ok)
		}
		l, ok = propagated(random(1), clauses(c.f), lits(c.l))
		if ok != (c.want != "conflict") || ok && !slices.Equal(l, lits(c.want)) {
			t.Errorf("%s from %s: %v, %v by definition", c.f, c.l, l, ok)
		}
	}
}

// P12.1, L2: formulas and literals that are not valid for 16 variables.
func TestPropagateInvalid(t *testing.T) {
	for what, x := range invalid() {
		if clause.Valid(x.f, 16) {
			continue
		}
		for _, l := range []string{"", "1", "-1 2", "16"} {
			if out, ok := clause.Propagate(x.f, lits(l)); ok || len(out) > 0 {
				t.Errorf("%s from %s: %v, %v", what, l, out, ok)
			}
		}
	}
	for _, x := range append(slices.Clone(extremes), 0, 17, -17) {
		for _, l := range [][]int{{x}, {x, 1}, {-1, 2, x}} {
			for _, f := range []string{"", "(1 2)", "(16)"} {
				if out, ok := clause.Propagate(clauses(f), l); ok || len(out) > 0 {
					t.Errorf("%s from %v: %v, %v", f, l, out, ok)
				}
			}
		}
	}
}

// P12.1, L2: any number of literals, and formulas of 200 clauses.
func TestPropagateMany(t *testing.T) {
	l := slices.Repeat(lits("3 -16 3 -1"), 100000)
	if out, ok := clause.Propagate(clauses("(16 2)"), l); !ok || !slices.Equal(out, lits("-1 2 3 -16")) {
		t.Errorf("%v, %v", out, ok)
	}
	if out, ok := clause.Propagate(clauses("(16 2)"), append(l, -3)); ok || len(out) > 0 {
		t.Errorf("%v, %v", out, ok)
	}
	f := append(slices.Repeat(clauses("(-1 -2)"), 199), lits("1"))
	if out, ok := clause.Propagate(f, nil); !ok || !slices.Equal(out, lits("1 -2")) {
		t.Errorf("%v, %v", out, ok)
	}
}
