package lengths_test

import (
	"testing"

	"univocal/api"
	"univocal/lengths"
)

type operation struct {
	what string
	do   func(a, b api.Lengths) (api.Lengths, api.Errno)
	of   func(x, y bool) bool
}

var operations = []operation{
	{"And", lengths.And, func(x, y bool) bool { return x && y }},
	{"Or", lengths.Or, func(x, y bool) bool { return x || y }},
}

// checkBoth checks an operation on two sets; period is a common multiple of the lengths of their cycles.
func checkBoth(t *testing.T, o operation, a, b api.Lengths, period int) {
	t.Helper()
	start := max(len(a.Head), len(b.Head))
	l := table(start+2*period, func(n int) bool { return o.of(member(a, n), member(b, n)) })
	got, err := o.do(a, b)
	check(t, o.what+" of "+text(a)+" and "+text(b), got, err, l, start)
}

// P5.1, P5.3, E5: the operations return the canonical forms of their results, for all pairs of small sets.
func TestCombineSmall(t *testing.T) {
	sets := all(4)
	for _, o := range operations {
		for _, a := range sets {
			for _, b := range sets {
				checkBoth(t, o, a, b, 12)
			}
		}
	}
}

// P5.1, P5.3, E5: larger sets.
func TestCombineSamples(t *testing.T) {
	s := sequence()
	for _, o := range operations {
		for range 200 {
			a, b := s.some(60, 40), s.some(60, 40)
			checkBoth(t, o, a, b, len(a.Cycle)*len(b.Cycle))
		}
		checkBoth(t, o, shifted(511, 1), shifted(510, 2), 511*510)
		checkBoth(t, o, shifted(256, 256), shifted(512, 0), 512)
	}
}

// P5.1, E5: the chapter's examples and other results.
func TestCombineExamples(t *testing.T) {
	for _, c := range []struct {
		what, a, b, want string
	}{
		{"And", "|10", "|100", "|100000"}, {"And", "|10", "|01", "|0"}, {"And", "1111|0", "|01", "0101|0"},
		{"And", "00|1", "|1", "00|1"}, {"And", "|0", "|10", "|0"}, {"And", "10|10", "|1000", "|1000"},
		{"Or", "|0", "|0", "|0"}, {"Or", "|10", "|01", "|1"}, {"Or", "111|0", "000|1", "|1"}, {"Or", "0|1", "1|0", "|1"},
		{"Or", "|10", "|100", "|101110"}, {"Or", "01|0", "|10", "11|10"}, {"Or", "|0", "1|1000", "1|1000"},
	} {
		for _, o := range operations {
			if o.what != c.what {
				continue
			}
			if got, err := o.do(set(c.a), set(c.b)); err != api.OK || text(got) != c.want {
				t.Errorf("%s of %s and %s is %s, %v, want %s", c.what, c.a, c.b, text(got), err, c.want)
			}
		}
	}
}

// P5.1, E5: results with 512 elements and with more, however large the sets in between are.
func TestCombineBig(t *testing.T) {
	for _, c := range []struct {
		m, n, by int
		err      api.Errno
	}{
		{7, 73, 0, api.OK}, {7, 73, 1, api.OK}, {7, 73, 2, api.ErrBig}, {16, 32, 480, api.OK}, {16, 512, 0, api.OK}, {27, 19, 0, api.ErrBig},
		{30, 17, 1, api.OK}, {30, 17, 2, api.OK}, {30, 17, 3, api.ErrBig},
		{511, 510, 0, api.ErrBig}, {255, 257, 0, api.ErrBig},
	} {
		// The common members are those of the head, which no cycle continues, and the multiples of both numbers behind it.
		a, b := shifted(c.m, c.by), shifted(c.n, c.by)
		for n := range c.by {
			a.Head[n], b.Head[n] = true, true
		}
		got, err := lengths.And(a, b)
		if err != c.err || err != api.OK && !zero(got) || err == api.OK && len(got.Head) != c.by {
			t.Errorf("And of the multiples of %d and %d behind a head of %d: %s, %v", c.m, c.n, c.by, text(got), err)
		}
	}
	none, most := shifted(511, 0), shifted(510, 0)
	none.Cycle[0] = false
	if got, err := lengths.And(none, most); err != api.OK || text(got) != "|0" {
		t.Errorf("And with no member: %s, %v", text(got), err)
	}
	if got, err := lengths.Or(none, most); err != api.OK || !same(got, most) {
		t.Errorf("Or with no member: %s, %v", text(got), err)
	}
	every := api.Lengths{Cycle: table(511, func(int) bool { return true })}
	if got, err := lengths.Or(most, every); err != api.OK || text(got) != "|1" {
		t.Errorf("Or with all numbers: %s, %v", text(got), err)
	}
	if got, err := lengths.Or(multiples(511, 0), multiples(510, 0)); err != api.ErrBig || !zero(got) {
		t.Errorf("Or with a large cycle: %s, %v", text(got), err)
	}
}

// P5.3: And and Or are commutative and associative, and absorb each other.
func TestCombineLaws(t *testing.T) {
	s := sequence()
	for range 200 {
		a, b, c := s.some(15, 7), s.some(15, 7), s.some(15, 7)
		for i, o := range operations {
			do := func(a, b api.Lengths) api.Lengths {
				l, err := o.do(a, b)
				return ok(t, o.what, l, err)
			}
			other, err := operations[1-i].do(a, b)
			ok(t, operations[1-i].what, other, err)
			if !same(do(a, b), do(b, a)) || !same(do(do(a, b), c), do(a, do(b, c))) || !same(do(a, a), canon(t, a)) ||
				!same(do(a, other), canon(t, a)) {
				t.Fatalf("%s of %s, %s and %s breaks a law", o.what, text(a), text(b), text(c))
			}
		}
	}
}

// P5.3, P5.4: the results do not depend on how the arguments are written.
func TestCombineForms(t *testing.T) {
	s := sequence()
	for range 100 {
		a, b := s.some(12, 9), s.some(12, 9)
		for what, do := range map[string]func(a, b api.Lengths) (api.Lengths, api.Errno){"And": lengths.And, "Or": lengths.Or, "Sum": lengths.Sum} {
			x, errX := do(a, b)
			y, errY := do(canon(t, a), canon(t, b))
			if errX != errY || !same(x, y) {
				t.Fatalf("%s of %s and %s: %s, %v, but %s, %v of the canonical forms", what, text(a), text(b), text(x), errX, text(y), errY)
			}
		}
	}
}

// P5.1, E5, E6: ErrArg comes before ErrBig, whichever set is not valid.
func TestCombineInvalid(t *testing.T) {
	big := shifted(509, 3)
	for i, l := range invalid() {
		for what, do := range map[string]func(a, b api.Lengths) (api.Lengths, api.Errno){"And": lengths.And, "Or": lengths.Or, "Sum": lengths.Sum} {
			for _, args := range [][2]api.Lengths{{l, big}, {big, l}, {l, l}, {l, set("|0")}, {set("|0"), l}} {
				if got, err := do(args[0], args[1]); err != api.ErrArg || !zero(got) {
					t.Errorf("%s with the invalid set %d: %s, %v", what, i, text(got), err)
				}
			}
		}
	}
}
