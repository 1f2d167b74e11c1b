package rows_test

import (
	"math"
	"slices"
	"testing"

	"univocal/api"
	"univocal/rows"
)

// P10.1, J1: the limits of systems.
func TestValid(t *testing.T) {
	for i, s := range []api.System{
		system([]int{0}), system([]int{64}), system(tops(12, 64)), system([]int{5, 0, 64}, row(0, 0, 0, 0)),
		system([]int{1, 1}, row(1000, 1000, -1000), row(-1000, -1000, 1000)),
		system(tops(12, 0), slices.Repeat([]api.Row{row(-1, tops(12, -1)...)}, 24)...),
	} {
		if !rows.Valid(s) {
			t.Errorf("%d: %v is not valid", i, s)
		}
	}
	for what, s := range invalid() {
		if rows.Valid(s) {
			t.Errorf("%s: %v is valid", what, s)
		}
	}
}

// P10.1, J1: rows at points.
func TestHolds(t *testing.T) {
	const big = 1 << 20
	for _, c := range []struct {
		r    api.Row
		x    []int
		want bool
	}{
		{row(-4, 1, 1), []int{2, 2}, true}, {row(-4, 1, 1), []int{1, 2}, false}, {row(0, 1, -1), []int{2, 2}, true}, {row(0, 1, -1), []int{2, 3}, false},
		{row(-7, 3, 0, -2), []int{3, 100, 1}, true}, {row(-8, 3, 0, -2), []int{3, 100, 1}, false}, {row(1, 1), []int{-1}, true}, {row(1, 1), []int{-2}, false},
		{row(0), nil, true}, {row(5), nil, true}, {row(-1), nil, false},
		{row(0, 1), nil, false}, {row(0), []int{1}, false}, {row(0, 1, 1), []int{1}, false}, {row(0, 1), []int{1, 1}, false},
		{row(0, tops(12, 1)...), tops(12, 1), true}, {row(0, tops(13, 1)...), tops(13, 1), false}, {row(0, tops(13, 0)...), tops(13, 0), false},
		{row(big, big), []int{big}, true}, {row(-big, big), []int{-big}, false}, {row(-big, -big), []int{-big}, true}, {row(-big, 1), []int{big}, true},
		{row(0, tops(12, big)...), tops(12, big), true}, {row(0, tops(12, big)...), tops(12, -big), false}, {row(big, tops(12, -big)...), tops(12, -big), true},
		{row(big + 1), nil, false}, {row(big+1, 1), []int{1}, false}, {row(-big-1, big), []int{big}, false},
		{row(0, big+1), []int{1}, false}, {row(0, 1, -big-1), []int{1, -1}, false}, {row(0, 1), []int{big + 1}, false}, {row(0, 1, -1), []int{1, -big - 1}, false},
	} {
		if ok := rows.Holds(c.r, c.x); ok != c.want {
			t.Errorf("%v at %v: %v", c.r, c.x, ok)
		}
	}
	for _, e := range extremes {
		for _, c := range []struct {
			r api.Row
			x []int
		}{{row(e, 0), []int{0}}, {row(0, e), []int{0}}, {row(0, 0), []int{e}}, {row(0, e), []int{e}}, {row(e, e), []int{e}}, {row(0, 0, e), []int{0, 0}}, {row(0, 0, 0), []int{0, e}}} {
			if rows.Holds(c.r, c.x) {
				t.Errorf("%v holds at %v", c.r, c.x)
			}
		}
	}
}

// P10.1, J2: the least solutions of small systems, by hand.
func TestSolve(t *testing.T) {
	for _, c := range []struct {
		s    api.System
		want []int // nil: none
	}{
		{system([]int{3, 3}, row(-4, 1, 1), row(0, 1, -1)), []int{2, 2}},
		{system([]int{3, 3}, row(-4, 1, 1)), []int{1, 3}},
		{system([]int{5}, row(-3, 2), row(3, -2)), nil},
		{system([]int{5}, row(-3, 2), row(4, -2)), []int{2}},
		{system([]int{0}, row(-1, 1)), nil}, {system([]int{0}), []int{0}}, {system([]int{64}), []int{0}}, {system([]int{64}, row(-64, 1)), []int{64}}, {system([]int{63}, row(-64, 1)), nil},
		{system([]int{0, 0, 0}), []int{0, 0, 0}}, {system([]int{2, 3}, row(0, 0, 0)), []int{0, 0}}, {system([]int{2, 3}, row(-1, 0, 0)), nil}, {system([]int{2, 3}, row(1, 0, 0)), []int{0, 0}},
		{system([]int{9, 9}, row(-7, 1, 0), row(7, -1, 0), row(-3, 0, 1)), []int{7, 3}},
		{system([]int{9, 9}, row(-10, 3, 5), row(10, -3, -5), row(-1, 1, 0)), nil},
		{system([]int{9, 9}, row(-19, 3, 5), row(19, -3, -5), row(-1, 1, 0)), []int{3, 2}},
		{system([]int{1, 1, 1}, row(-2, 1, 1, 1), row(1, -1, -1, 0)), []int{0, 1, 1}},
		{system([]int{64, 64}, row(-1000, 1000, -1000), row(1000, -1000, 1000), row(-64, 1, 0)), []int{64, 63}},
		{system(tops(12, 1), row(-12, tops(12, 1)...)), tops(12, 1)}, {system(tops(12, 1), row(-1, tops(12, 1)...)), append(tops(11, 0), 1)},
	} {
		x, p, ok, err := rows.Solve(c.s)
		if err != api.OK || ok != (c.want != nil) || !slices.Equal(x, c.want) || ok && len(p) > 0 || !ok && !rows.Check(c.s, p) {
			t.Errorf("%v: %v, %v, %v, %v, want %v", c.s, x, p, ok, err, c.want)
		}
	}
}

// P10.1, J2: systems that are not valid.
func TestSolveInvalid(t *testing.T) {
	for what, s := range invalid() {
		x, p, ok, err := rows.Solve(s)
		if err != api.ErrArg || ok || len(x) > 0 || len(p) > 0 {
			t.Errorf("%s: %v, %v, %v, %v", what, x, p, ok, err)
		}
	}
}

// sized are lists of greatest values with their numbers of candidate points, if these are at most MaxPoints.
var sized = []struct {
	top   []int
	small bool
}{
	{[]int{63, 63, 3}, true}, {append(tops(9, 1), 31), true}, {append(tops(10, 1), 3, 3), true}, {append(tops(11, 1), 7), true}, {[]int{0, 63, 0, 63, 3, 0}, true}, {[]int{0, 0, 0, 0, 0, 0, 0, 0, 0, 63, 63, 3}, true},
	{[]int{64, 63, 2}, true}, {[]int{63, 0, 64, 3}, false}, {[]int{64, 64, 3}, false}, {[]int{63, 63, 4}, false}, {[]int{27, 44, 12}, true}, {[]int{15, 24, 40}, false},
	{append(tops(11, 1), 8), false}, {append(tops(10, 1), 3, 4), false}, {[]int{42, 42, 7, 1}, false}, {[]int{42, 42, 7}, true},
	// Numbers of candidate points that do not fit into 64 bits: 2^64, 2^66 and others.
	{append(tops(10, 63), 15), false}, {append(tops(10, 63), 15, 0), false}, {tops(11, 63), false}, {tops(12, 63), false}, {tops(12, 64), false}, {tops(12, 31), false},
}

// P10.1, J2, J4: systems with many candidate points.
func TestBig(t *testing.T) {
	for _, c := range sized {
		s := system(c.top)
		x, p, ok, err := rows.Solve(s)
		want := api.ErrBig
		if c.small {
			want = api.OK
		}
		if err != want || ok != c.small || len(p) > 0 || ok && !slices.Equal(x, make([]int, len(c.top))) || !ok && len(x) > 0 {
			t.Errorf("%v: %v, %v, %v, %v", s, x, p, ok, err)
		}
		for i, top := range c.top {
			if least, greatest, ok := rows.Project(s, i); ok != c.small || ok && greatest != top || !ok && greatest != 0 || least != 0 {
				t.Errorf("%v, variable %d: %d, %d, %v", s, i, least, greatest, ok)
			}
		}
		s.Rows = []api.Row{row(-1, make([]int, len(c.top))...)}
		if _, p, ok, err = rows.Solve(s); ok || err != want || rows.Check(s, p) != c.small {
			t.Errorf("%v: %v, %v, %v", s, p, ok, err)
		}
		s.Rows[0].A = nil
		if _, _, ok, err = rows.Solve(s); ok || err != api.ErrArg {
			t.Errorf("%v: %v, %v", s, ok, err)
		}
	}
}

// P10.1, J4: least and greatest values of small systems, by hand.
func TestProject(t *testing.T) {
	for _, c := range []struct {
		s               api.System
		x               int
		least, greatest int // -1: none
	}{
		{system([]int{3, 3}, row(-4, 1, 1), row(0, 1, -1)), 0, 2, 3}, {system([]int{3, 3}, row(-4, 1, 1), row(0, 1, -1)), 1, 1, 3},
		{system([]int{3, 3}, row(-4, 1, 1), row(0, 1, -1)), 2, -1, -1}, {system([]int{3, 3}, row(-4, 1, 1), row(0, 1, -1)), -1, -1, -1},
		{system([]int{3, 3}), math.MinInt, -1, -1}, {system([]int{3, 3}), math.MaxInt, -1, -1}, {system([]int{3, 3}), 1 << 32, -1, -1}, {system([]int{3, 3}), 11, -1, -1},
		{system([]int{5}, row(-3, 2), row(3, -2)), 0, -1, -1}, {system([]int{5}, row(-3, 2), row(9, -2)), 0, 2, 4}, {system([]int{0}), 0, 0, 0}, {system([]int{64}), 0, 0, 64},
		{system([]int{9, 9}, row(-19, 3, 5), row(19, -3, -5)), 0, 3, 3}, {system([]int{9, 9}, row(-30, 3, 5), row(30, -3, -5)), 0, 0, 5}, {system([]int{9, 9}, row(-30, 3, 5), row(30, -3, -5)), 1, 3, 6},
	} {
		least, greatest, ok := rows.Project(c.s, c.x)
		if ok != (c.least >= 0) || least != max(c.least, 0) || greatest != max(c.greatest, 0) {
			t.Errorf("%v, variable %d: %d, %d, %v, want %d, %d", c.s, c.x, least, greatest, ok, c.least, c.greatest)
		}
	}
	for what, s := range invalid() {
		for _, x := range []int{0, 1, -1} {
			if least, greatest, ok := rows.Project(s, x); ok || least != 0 || greatest != 0 {
				t.Errorf("%s: %d, %d, %v", what, least, greatest, ok)
			}
		}
	}
}
