package numeral_test

import (
	"math"
	"testing"

	"univocal/api"
	"univocal/automaton"
	"univocal/language"
	"univocal/numeral"
)

// P9.1, I4: values for which there is no automaton.
func TestTextsInvalid(t *testing.T) {
	for _, r := range some() {
		for _, n := range []int{math.MinInt, -1 << 32, -1, r.Top + 1, 51, 1 << 32, 1<<32 + r.Top, math.MaxInt} {
			if d, err := numeral.Texts(r, n); err != api.ErrArg || !same(d, api.DFA{}) {
				t.Errorf("%v and %d: %v, %v", r, n, d, err)
			}
		}
	}
}

// P9.1, I4: automata of small rules, by expressions.
func TestTexts(t *testing.T) {
	for _, c := range []struct {
		r    api.Rule
		n    int
		want string
	}{
		{rule(10, 2, 20, ""), 7, "7"}, {rule(10, 2, 20, ""), 20, "20"}, {rule(10, 2, 20, "z"), 7, "0?7"}, {rule(10, 2, 20, "z"), 0, "0|00"},
		{rule(16, 2, 20, ""), 10, "a|A"}, {rule(16, 3, 31, "z"), 26, "0?1[aA]"}, {rule(16, 1, 31, "z"), 26, "!"}, {rule(10, 1, 20, ""), 10, "!"},
		{rule(10, 1, 20, "s"), 20, "[1-9][0-9]+"}, {rule(10, 1, 20, "sz"), 20, "[0-9][0-9]+"}, {rule(10, 1, 20, "s"), 10, "!"},
		{rule(10, 1, 8, "s"), 8, "8|9|[1-9][0-9]+"}, {rule(10, 2, 8, "sz"), 8, "0?[89]|[1-9][0-9]|[0-9]{3,}"}, {rule(10, 2, 8, "sz"), 7, "0?7"},
		{rule(10, 3, 1, "w"), 0, "0|[1-9][0-9]*[02468]|[2468]"}, {rule(10, 3, 1, "wz"), 1, "[0-9]*[13579]"},
		{rule(10, 1, 9, "w"), 4, "4|[1-9][0-9]*4"}, {rule(10, 1, 9, "wz"), 4, "[0-9]*4"}, {rule(16, 1, 15, "wz"), 12, "[0-9a-fA-F]*[cC]"},
	} {
		if d := texts(t, c.r, c.n); !same(d, built(t, c.want)) {
			t.Errorf("%v: %v are not the texts of %d", c.r, d, c.n)
		}
	}
}

// P9.1, I4: automata of all texts of small rules, by expressions.
func TestLanguage(t *testing.T) {
	for _, c := range []struct {
		r    api.Rule
		want string
	}{
		{rule(10, 2, 20, ""), "[0-9]|1[0-9]|20"}, {rule(10, 2, 20, "z"), "[01]?[0-9]|20"}, {rule(10, 1, 20, ""), "[0-9]"}, {rule(10, 1, 5, ""), "[0-5]"},
		{rule(10, 2, 5, "z"), "0?[0-5]"}, {rule(16, 2, 31, ""), "[0-9a-fA-F]|1[0-9a-fA-F]"}, {rule(16, 2, 26, "z"), "[01]?[0-9aA]|0?[b-fB-F]"},
		{rule(10, 2, 20, "s"), "0|[1-9][0-9]*"}, {rule(10, 2, 20, "w"), "0|[1-9][0-9]*"}, {rule(10, 6, 50, "sz"), "[0-9]+"}, {rule(10, 1, 1, "wz"), "[0-9]+"},
		{rule(16, 1, 20, "s"), "0|[1-9a-fA-F][0-9a-fA-F]*"}, {rule(16, 5, 20, "wz"), "[0-9a-fA-F]+"},
	} {
		if d := accepted(t, c.r); !same(d, built(t, c.want)) {
			t.Errorf("%v: %v are not its texts", c.r, d)
		}
	}
}

// P9.4, P9.1, I4: the automata are the canonical ones of the byte slices with the value, under every rule with one of the
// greatest values of some.
func TestTextsModel(t *testing.T) {
	each(some(), func(r api.Rule) {
		m := modelOf(t, r)
		for n := 0; n <= r.Top; n++ {
			if d := texts(t, r, n); !same(d, m.texts(t, n)) {
				t.Errorf("%v: %v are not the texts of %d", r, d, n)
				return
			}
		}
	})
}

// P9.4: the automata accept the byte slices that Read reads.
func TestTextsRead(t *testing.T) {
	l := inputs()
	each(rules(1, 9, 20, 50), func(r api.Rule) {
		values := map[int]api.DFA{}
		for n := 0; n <= r.Top; n += 1 + r.Top/10 {
			values[n] = texts(t, r, n)
		}
		d := accepted(t, r)
		for _, w := range l {
			v, ok := read(r, w)
			if automaton.Accepts(d, []byte(w)) != ok {
				t.Errorf("%v: %q is %s", r, w, shown(v, ok))
				return
			}
			for n, d := range values {
				if automaton.Accepts(d, []byte(w)) != (ok && n == v) {
					t.Errorf("%v: %q is %s, but not by the texts of %d", r, w, shown(v, ok), n)
					return
				}
			}
		}
	})
}

// P9.4, P9.5: under every rule all automata exist; those of different values have no common word, and together they accept
// what Language accepts.
func TestTextsUnion(t *testing.T) {
	each(all(), func(r api.Rule) {
		union := api.DFA{Classes: []api.Class{{math.MaxUint64, math.MaxUint64, math.MaxUint64, math.MaxUint64}}, Next: [][]int{{0}}, Accept: []bool{false}}
		for n := 0; n <= r.Top; n++ {
			d := texts(t, r, n)
			common, err := automaton.And(union, d)
			if w, some := automaton.Least(common); err != api.OK || some {
				t.Errorf("%v: %q is a text of %d and of a number before, %v", r, w, n, err)
				return
			}
			if union, err = automaton.Or(union, d); err != api.OK {
				t.Errorf("%v: union up to %d, %v", r, n, err)
				return
			}
		}
		if d := accepted(t, r); !same(d, union) {
			w, _ := automaton.Apart(d, union)
			t.Errorf("%v: %q is a text of no number, or a text that has no value", r, w)
		}
	})
}

// P9.5: the largest automata.
func TestSize(t *testing.T) {
	most := 0
	for _, r := range rules(50) {
		most = max(most, len(accepted(t, r).Next))
		for n := 0; n <= r.Top; n++ {
			most = max(most, len(texts(t, r, n).Next))
		}
	}
	// The 51 remainders, the start, the numeral 0 before which no other digit comes, and a dead state.
	if most != 54 {
		t.Errorf("%d states", most)
	}
}

// P9.4: how many texts of some length there are.
func TestCount(t *testing.T) {
	for _, c := range []struct {
		r       api.Rule
		n, size int
		want    int
	}{
		{rule(10, 2, 20, ""), 7, 1, 1}, {rule(10, 2, 20, ""), 7, 2, 0}, {rule(10, 6, 20, "z"), 7, 6, 1}, {rule(10, 6, 20, "z"), 7, 7, 0},
		{rule(16, 6, 50, "z"), 42, 6, 2}, {rule(16, 1, 50, "z"), 42, 2, 0},
		{rule(10, 2, 24, "wz"), 0, 3, 40}, {rule(10, 2, 24, "w"), 0, 3, 36}, {rule(10, 2, 24, "wz"), 0, 2, 4},
		{rule(10, 3, 50, "s"), 50, 2, 50}, {rule(10, 3, 50, "s"), 50, 3, 900}, {rule(10, 3, 50, "sz"), 50, 3, 950}, {rule(10, 3, 50, "sz"), 50, 4, 10000},
	} {
		n, err := language.Count(texts(t, c.r, c.n), c.size)
		if err != api.OK || n != c.want {
			t.Errorf("%v: %d has %d texts of %d bytes, want %d, %v", c.r, c.n, n, c.size, c.want, err)
		}
	}
}
