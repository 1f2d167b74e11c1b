package rows_test

import (
	"maps"
	"math"
	"slices"
	"strconv"
	"testing"

	"univocal/api"
	"univocal/rows"
)

// checked fails unless Check, and the definition that check follows, give want.
func checked(t *testing.T, what string, s api.System, p api.RowProof, want bool) {
	t.Helper()
	if ok := rows.Check(s, p); ok != want {
		t.Errorf("%s: %v", what, ok)
	}
	if ok := check(s, p); ok != want {
		t.Errorf("%s: %v by definition", what, ok)
	}
}

// halved has no solution: 2x - 3 >= 0 and 3 - 2x >= 0.
func halved() api.System { return system([]int{5}, row(-3, 2), row(3, -2)) }

// P10.1, J3: the refutations of the chapter's examples and others that have all kinds of steps.
func TestCheck(t *testing.T) {
	two := system([]int{3, 3}, row(-1, 1, 1), row(1, -2, -2))
	for what, c := range map[string]struct {
		s api.System
		p api.RowProof
	}{
		"example 2":        {halved(), api.RowProof{cut(1, 0, 2), sum(2, 0, 1, 0, 0, 2), shut()}},
		"example 3":        {system([]int{0}, row(-1, 1)), api.RowProof{sum(1, 1, 0, 1), shut()}},
		"split":            {halved(), api.RowProof{split(0, 1, 1, 3), sum(2, 1, 0, 0, 0, 2), shut(), sum(4, 0, 1, 0, 0, 2), shut()}},
		"split, exchanged": {halved(), api.RowProof{split(0, 1, 3, 1), sum(2, 0, 1, 0, 0, 2), shut(), sum(4, 1, 0, 0, 0, 2), shut()}},
		"split, mixed":     {halved(), api.RowProof{split(0, 1, 2, 1), sum(4, 0, 1, 0, 0, 2), sum(3, 1, 0, 0, 0, 2), shut(), shut()}},
		"negative split":   {halved(), api.RowProof{split(0, -1, 1, 2), shut(), cut(3, 0, 2), sum(4, 0, 1, 0, 0, 0, 2), shut()}},
		"late split":       {halved(), api.RowProof{sum(1, 0, 0, 0, 0), split(0, 9, 3, 2), sum(4, 0, 0, 0, 1, 0, 1), cut(5, 1, 2), shut(), sum(6, 1, 0, 0, 0, 0, 0, 2), shut()}},
		"negative row":     {two, api.RowProof{sum(1, 1, 0, 0, 0, 0, 0), cut(2, 1, 2), sum(3, 0, 0, 0, 0, 0, 0, 1, 1), shut()}},
		"negative left":    {two, api.RowProof{sum(1, 1, 1, 0, 0, 0, 0), cut(2, 6, 2), sum(3, 2, 1, 0, 0, 0, 0, 0, 0), shut()}},
		"zeros divided":    {system([]int{1}, row(-1, 0)), api.RowProof{cut(1, 0, math.MaxInt), shut()}},
		"zeros and 1":      {system([]int{1}, row(-1, 0)), api.RowProof{cut(1, 0, 2), cut(2, 3, 7), shut()}},
		"a bound divided":  {system([]int{1, 1}, row(-2, 0, 1)), api.RowProof{sum(1, 1, 0, 0, 0, 1), cut(2, 5, 2), shut()}},
		"unused steps":     {system([]int{0}, row(-1, 1)), api.RowProof{sum(1, 1, 0, 1), shut(), sum(3, 5), cut(4, 77, -2), split(9, math.MaxInt, 5, 6), shut(), shut()}},
		"used unused step": {system([]int{0}, row(-1, 1)), api.RowProof{sum(2, 1, 0, 1), cut(3, 0, 0), shut(), shut()}},
	} {
		want := what != "negative left"
		checked(t, what, c.s, c.p, want)
		checked(t, what+" of an invalid system", system(c.s.Top[1:], c.s.Rows...), c.p, false)
		checked(t, what+" without the last step", c.s, c.p[:len(c.p)-1], false)
	}
}

// P10.1, J3: refutations of which one thing is wrong.
func TestCheckDamaged(t *testing.T) {
	first := api.RowProof{cut(1, 0, 2), sum(2, 0, 1, 0, 0, 2), shut()}
	second := api.RowProof{split(0, 1, 1, 3), sum(2, 1, 0, 0, 0, 2), shut(), sum(4, 0, 1, 0, 0, 2), shut()}
	checked(t, "first", halved(), first, true)
	checked(t, "second", halved(), second, true)
	for what, p := range map[string]api.RowProof{
		"nothing": nil, "no steps": {}, "close alone": {shut()}, "open sum": {sum(1, 0, 1, 1, 0)}, "no kind": {api.RowStep{}}, "a cycle": {cut(0, 0, 2)},
		"close of zero":             {sum(1, 1, 1, 0, 0), shut()},
		"close before the last row": {sum(1, 1, 0, 0, 2), cut(2, 0, 2), shut()},
		"multipliers missing":       {cut(1, 0, 2), sum(2, 0, 1, 0, 0), shut()},
		"too many multipliers":      {cut(1, 0, 2), sum(2, 0, 1, 0, 0, 2, 0), shut()},
		"no multipliers":            {cut(1, 0, 2), sum(2), shut()},
		"negative multiplier":       {cut(1, 0, 2), sum(2, 0, 1, -1, 0, 2), shut()},
		"a positive coefficient":    {cut(1, 0, 2), sum(2, 0, 1, 1, 0, 2), shut()},
		"indivisible":               {cut(1, 0, 3), sum(2, 0, 1, 0, 0, 2), shut()},
		"divided by 1":              {cut(1, 0, 1), sum(2, 1, 1, 0, 0, 0), shut()},
		"divided by 0":              {cut(1, 0, 0), sum(2, 0, 1, 0, 0, 2), shut()},
		"divided by -2":             {cut(1, 1, -2), sum(2, 0, 1, 0, 0, 2), shut()},
		"divided by the least":      {cut(1, 1, math.MinInt), sum(2, 0, 1, 0, 0, 2), shut()},
		"row before":                {cut(1, -1, 2), sum(2, 0, 1, 0, 0, 2), shut()},
		"row behind":                {cut(1, 4, 2), sum(2, 0, 1, 0, 0, 2), shut()},
		"exchanged branches":        {split(0, 1, 3, 1), sum(2, 1, 0, 0, 0, 2), shut(), sum(4, 0, 1, 0, 0, 2), shut()},
		"one branch":                {split(0, 1, 1, 1), sum(2, 1, 0, 0, 0, 2), shut()},
		"shared step":               {split(0, 1, 1, 2), sum(3, 1, 0, 0, 0, 2), sum(3, 0, 1, 0, 0, 2), shut()},
		"split too high":            {split(0, 2, 1, 3), sum(2, 1, 0, 0, 0, 2), shut(), sum(4, 0, 1, 0, 0, 2), shut()},
		"split too low":             {split(0, 0, 1, 3), sum(2, 1, 0, 0, 0, 2), shut(), sum(4, 0, 1, 0, 0, 2), shut()},
		"no variable":               {split(1, 1, 1, 3), sum(2, 1, 0, 0, 0, 2), shut(), sum(4, 0, 1, 0, 0, 2), shut()},
		"negative variable":         {split(-1, 1, 1, 3), sum(2, 1, 0, 0, 0, 2), shut(), sum(4, 0, 1, 0, 0, 2), shut()},
		"other branch open":         {split(0, -1, 1, 2), shut(), shut()},
		"shared with an unused one": {cut(2, 0, 2), sum(2, 0), sum(3, 0, 1, 0, 0, 2), shut()},
		"two unused parents":        {cut(1, 0, 2), sum(2, 0, 1, 0, 0, 2), shut(), sum(6), sum(6), shut(), shut()},
		"split of unused to one":    {cut(1, 0, 2), sum(2, 0, 1, 0, 0, 2), shut(), split(0, 0, 4, 4), shut()},
	} {
		checked(t, what, halved(), p, false)
	}
	for name, good := range map[string]api.RowProof{"first": first, "second": second, "unused": append(cloneProof(first), sum(7), cut(7, 0, 2), split(0, 0, 6, 7), shut(), shut())} {
		good = cloneProof(good)
		if name == "unused" {
			good[3].Next, good[4].Next, good[5].Next, good[5].Else = 6, 7, 8, 9
			good = append(good, shut(), shut())
			checked(t, name, halved(), good, true)
		}
		damageFields(t, name, good)
	}
}

// damageFields gives every field of a refutation of halved that does not belong to its step a value, and every step number
// one that is no step behind.
func damageFields(t *testing.T, name string, good api.RowProof) {
	for i := range good {
		for _, x := range append(slices.Clone(extremes), 1, -1) {
			for j, field := range []func(s *api.RowStep) *int{
				func(s *api.RowStep) *int { return &s.R }, func(s *api.RowStep) *int { return &s.D }, func(s *api.RowStep) *int { return &s.X },
				func(s *api.RowStep) *int { return &s.K }, func(s *api.RowStep) *int { return &s.Next }, func(s *api.RowStep) *int { return &s.Else },
			} {
				p := cloneProof(good)
				own := [][]int{{4}, {0, 1, 4}, {2, 3, 4, 5}, {}}[p[i].Kind-1]
				if !slices.Contains(own, j) {
					*field(&p[i]) = x
					checked(t, name+": field "+strconv.Itoa(j)+" of step "+strconv.Itoa(i)+" is "+strconv.Itoa(x), halved(), p, false)
				}
			}
		}
		p := cloneProof(good)
		if p[i].Kind != api.RwSum {
			p[i].M = []int{0}
			checked(t, name+": multipliers of step "+strconv.Itoa(i), halved(), p, false)
		}
		for _, x := range append(slices.Clone(extremes), 0, 5, 6, -1, 100) {
			p = cloneProof(good)
			p[i].Kind = x
			checked(t, name+": kind of step "+strconv.Itoa(i)+" is "+strconv.Itoa(x), halved(), p, false)
		}
		for _, x := range append(slices.Clone(extremes), 0, -1, i, i-1, len(good), len(good)+1) {
			p = cloneProof(good)
			p[i].Next = x
			checked(t, name+": next of step "+strconv.Itoa(i)+" is "+strconv.Itoa(x), halved(), p, p[i].Kind == api.RwClose && x == 0)
			p = cloneProof(good)
			p[i].Else = x
			checked(t, name+": else of step "+strconv.Itoa(i)+" is "+strconv.Itoa(x), halved(), p, p[i].Kind != api.RwSplit && x == 0)
		}
	}
}

// P10.1, J3: a step that has to be correct, although nothing follows from the row that it adds.
func TestCheckUnused(t *testing.T) {
	for what, c := range map[string]struct {
		step api.RowStep
		want bool
	}{
		"sum":                    {sum(1, 0, 1000, 1, 2), true},
		"multipliers missing":    {sum(1, 0, 1, 1), false},
		"too many multipliers":   {sum(1, 0, 1, 1, 1, 1), false},
		"no multipliers":         {sum(1), false},
		"a negative multiplier":  {sum(1, 0, 1, -1, 0), false},
		"a large multiplier":     {sum(1, 0, 1, 1001, 0), false},
		"the last of them large": {sum(1, 0, 1, 0, 1001), false},
		"cut":                    {cut(1, 1, 2), true},
		"cut by the coefficient": {cut(1, 1, 4), true},
		"cut of a bound":         {cut(1, 2, 2), false},
		"indivisible":            {cut(1, 1, 3), false},
		"divided by 8":           {cut(1, 1, 8), false},
		"divided by 1":           {cut(1, 1, 1), false},
		"divided by 0":           {cut(1, 1, 0), false},
		"divided by -1":          {cut(1, 1, -1), false},
		"divided by -2":          {cut(1, 1, -2), false},
		"row before":             {cut(1, -1, 2), false},
		"row behind":             {cut(1, 4, 2), false},
		"split":                  {split(0, -1, 2, 1), true},
		"no variable":            {split(1, -1, 2, 1), false},
		"a negative variable":    {split(-1, -1, 2, 1), false},
		"a small split":          {split(0, -1<<20, 2, 1), true},
		"too small a split":      {split(0, -1<<20-1, 2, 1), false},
	} {
		s := system([]int{5}, row(-1, 0), row(0, 4))
		p := api.RowProof{c.step, sum(3, 1, 0, 0, 0, 0), shut(), shut()}
		if c.step.Kind != api.RwSplit {
			p = api.RowProof{c.step, sum(2, 1, 0, 0, 0, 0), shut()}
		}
		checked(t, what, s, p, c.want)
	}
}

// P10.1, J3: a nil list and an empty one are the same multipliers.
func TestCheckEmptyMultipliers(t *testing.T) {
	p := api.RowProof{cut(1, 0, 2), sum(2, 0, 1, 0, 0, 2), shut()}
	p[0].M, p[2].M = []int{}, []int{}
	checked(t, "empty multipliers", halved(), p, true)
}

// P10.1, J3: multipliers, divisors and split values at their limits.
func TestCheckLimits(t *testing.T) {
	thousand := system([]int{1}, row(-1, 1000), row(0, -1))
	thousands := func(m int) api.RowProof { return api.RowProof{sum(1, 1, m, 0, 0), shut()} }
	checked(t, "a multiplier of 999", thousand, thousands(999), false)
	checked(t, "a multiplier of 1000", thousand, thousands(1000), true)
	checked(t, "a multiplier of 1001", thousand, thousands(1001), false)
	checked(t, "a multiplier of 1001 beside others", thousand, api.RowProof{sum(1, 1, 1000, 0, 1001), shut()}, false)
	for k, want := range map[int]bool{0: true, -1: true, 1 << 20: true, -1 << 20: true, 1<<20 + 1: false, -1<<20 - 1: false, 1 << 32: false, math.MinInt: false, math.MaxInt: false} {
		s := system([]int{1}, row(-1, 0))
		checked(t, "a split at "+strconv.Itoa(k), s, api.RowProof{split(0, k, 1, 3), sum(2, 1, 0, 0, 0), shut(), sum(4, 1, 0, 0, 0), shut()}, want)
	}
	for _, x := range append(slices.Clone(extremes), 1001, -1) {
		what := "a multiplier of " + strconv.Itoa(x)
		s := system([]int{1}, row(-1, 0))
		checked(t, what, s, api.RowProof{sum(1, x, 0, 0), shut()}, false)
		checked(t, what, s, api.RowProof{sum(1, 1, 0, x), shut()}, false)
		checked(t, what, s, api.RowProof{sum(1, 1, x, 1), shut()}, false)
	}
	for _, x := range extremes {
		s := system([]int{1}, row(-1, 0))
		checked(t, "variable "+strconv.Itoa(x), s, api.RowProof{split(x, 0, 1, 3), sum(2, 1, 0, 0, 0), shut(), sum(4, 1, 0, 0, 0), shut()}, false)
		checked(t, "row "+strconv.Itoa(x), s, api.RowProof{cut(1, x, 2), shut()}, false)
		checked(t, "divisor "+strconv.Itoa(x), s, api.RowProof{cut(1, 0, x), shut()}, x > 0)
	}
}

// P10.1, J3: divisions round down, whatever the sign.
func TestCheckRounding(t *testing.T) {
	for c := -9; c <= 9; c++ {
		for d := 2; d <= 5; d++ {
			// The divided row is x + q >= 0; with the row r - x >= 0 its sum is negative if q + r is.
			q := int(math.Floor(float64(c) / float64(d)))
			s := func(r int) api.System { return system([]int{64}, row(c, d), row(r, -1)) }
			p := api.RowProof{cut(1, 0, d), sum(2, 0, 1, 0, 0, 1), shut()}
			what := strconv.Itoa(c) + " divided by " + strconv.Itoa(d)
			checked(t, what, s(-q-1), p, true)
			checked(t, what, s(-q), p, false)
		}
	}
}

// power returns steps that add the row of index k times 2^36, for a system whose branch has size rows; the four rows that
// they add have the indices from size on.
func power(k, size int) api.RowProof {
	p := api.RowProof{sum(1, times(size, map[int]int{k: 512})...)}
	for i := 1; i < 4; i++ {
		p = append(p, sum(i+1, times(size+i, map[int]int{size + i - 1: 512})...))
	}
	return p
}

// P10.1, J3: the numbers of rows and of sums on the way to them are at most 2^40.
func TestCheckLargest(t *testing.T) {
	for _, sign := range []int{1, -1} {
		for name, big := range map[string]api.Row{"constant": row(sign, 0, 0), "coefficient 0": row(0, sign, 0), "coefficient 1": row(0, 0, sign)} {
			same := api.Row{A: big.A, C: big.C}
			s := system([]int{1, 1}, big, opposite(big), same, row(-1, 0, 0))
			size := 8
			largest := func(values ...map[int]int) api.RowProof {
				p := power(0, size)
				p = append(p, power(1, size+4)...)
				for i := range p {
					p[i].Next = i + 1
				}
				// The row with the index high is 2^36 times row 0, the one with the index low is 2^36 times row 1.
				for _, v := range values {
					p = append(p, sum(len(p)+1, times(size+len(p), v)...))
				}
				return append(p, sum(len(p)+1, times(size+len(p), map[int]int{3: 1})...), shut())
			}
			const high, low = 11, 15
			for what, c := range map[string]struct {
				values []map[int]int
				want   bool
			}{
				"2^40":                    {[]map[int]int{{high: 16}}, true},
				"-2^40":                   {[]map[int]int{{low: 16}}, true},
				"2^40 + 1":                {[]map[int]int{{high: 16, 0: 1}}, false},
				"-2^40 - 1":               {[]map[int]int{{low: 16, 1: 1}}, false},
				"17 * 2^36":               {[]map[int]int{{high: 17}}, false},
				"-17 * 2^36":              {[]map[int]int{{low: 17}}, false},
				"-1 + 1 + 2^40":           {[]map[int]int{{high: 16, 1: 1, 2: 1}}, true},
				"1 + 2^40 - 2^36":         {[]map[int]int{{0: 1, high: 16, low: 1}}, false},
				"2^40 and back":           {[]map[int]int{{high: 16, low: 16}}, true},
				"2^40, then -2^40":        {[]map[int]int{{high: 16, low: 32}}, true},
				"2^40, then -17 * 2^36":   {[]map[int]int{{high: 16, low: 33}}, false},
				"too large on the way":    {[]map[int]int{{high: 17, low: 16}}, false},
				"too large at the end":    {[]map[int]int{{high: 16}, {high: 16, 16: 1}}, false},
				"large, then opposite":    {[]map[int]int{{high: 16}, {low: 16, 16: 1}}, true},
				"large, then too large":   {[]map[int]int{{high: 16}, {0: 1, 16: 1}}, false},
				"1000 times 2^40":         {[]map[int]int{{high: 16}, {16: 1000}}, false},
				"1000 times -2^40":        {[]map[int]int{{low: 16}, {16: 1000}}, false},
				"1000 times 2^40, always": {[]map[int]int{{high: 16}, {high: 1000, 16: 1000}}, false},
			} {
				checked(t, what+" in "+name, s, largest(c.values...), c.want)
			}
		}
	}
}

// P10.1, J3: no more than MaxProof steps, used or not.
func TestCheckMost(t *testing.T) {
	good := api.RowProof{cut(1, 0, 2), sum(2, 0, 1, 0, 0, 2), shut()}
	for steps, want := range map[int]bool{65535: true, 65536: true, 65537: false, 70000: false} {
		p := cloneProof(good)
		for len(p) < steps {
			p = append(p, shut())
		}
		if rows.Check(halved(), p) != want {
			t.Errorf("%d steps, of which 3 are used: %v", steps, !want)
		}
		var chain api.RowProof
		for len(chain) < steps-1 {
			chain = append(chain, cut(len(chain)+1, 0, 2))
		}
		chain = append(chain, shut())
		if rows.Check(system([]int{1}, row(-1, 0)), chain) != want {
			t.Errorf("%d steps one after the other: %v", steps, !want)
		}
		var splits api.RowProof
		for len(splits)+3 <= steps {
			splits = append(splits, split(0, -1, len(splits)+1, len(splits)+2), shut())
		}
		// After all these splits the last row, which is x[0] >= 0, is not negative.
		splits = append(splits, shut())
		if rows.Check(system([]int{1}, row(-1, 0)), splits) {
			t.Errorf("%d splits are no refutation", steps)
		}
		splits[len(splits)-1] = cut(len(splits), 0, 2)
		if splits = append(splits, shut()); rows.Check(system([]int{1}, row(-1, 0)), splits) != (len(splits) <= 65536) {
			t.Errorf("%d steps, mostly splits", len(splits))
		}
	}
}

// P10.1, J3: refutations of systems that are not valid.
func TestCheckInvalid(t *testing.T) {
	for what, s := range invalid() {
		size := len(s.Rows) + 2*len(s.Top)
		for k := range size {
			for p := range maps.Values(map[int]api.RowProof{0: {shut()}, 1: {sum(1, times(size, map[int]int{k: 1})...), shut()}, 2: {cut(1, k, 2), shut()}, 3: {split(0, -1, 1, 2), shut(), shut()}}) {
				checked(t, what, s, p, false)
			}
		}
	}
	var none api.System
	checked(t, "nothing", none, api.RowProof{shut()}, false)
	// The same refutations are accepted for valid systems with the same false row.
	s := system([]int{3, 2}, row(-1, 0, 0))
	checked(t, "a valid system", s, api.RowProof{sum(1, 1, 0, 0, 0, 0), shut()}, true)
	s.Rows[0].C = -1001
	checked(t, "a constant of -1001", s, api.RowProof{sum(1, 1, 0, 0, 0, 0), shut()}, false)
	s = system([]int{3, -1})
	checked(t, "a negative top", s, api.RowProof{sum(1, 0, 1, 0, 1), shut()}, false)
	s = system(append(tops(12, 0), 0), row(-1, tops(13, 0)...))
	checked(t, "13 variables", s, api.RowProof{sum(1, times(27, map[int]int{0: 1})...), shut()}, false)
	s = system([]int{0}, slices.Repeat([]api.Row{row(-1, 0)}, 24)...)
	checked(t, "24 rows", s, api.RowProof{sum(1, times(26, map[int]int{23: 1})...), shut()}, true)
	s.Rows = append(s.Rows, row(-1, 0))
	checked(t, "25 rows", s, api.RowProof{sum(1, times(27, map[int]int{0: 1})...), shut()}, false)
	s = system([]int{65}, row(-1, 0))
	checked(t, "a top of 65", s, api.RowProof{sum(1, 1, 0, 0), shut()}, false)
	s = system([]int{1}, row(-1, 0), row(0))
	checked(t, "an empty row", s, api.RowProof{sum(1, 1, 0, 0, 0), shut()}, false)
}
