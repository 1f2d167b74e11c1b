package lengths_test

import (
	"testing"

	"univocal/api"
	"univocal/automaton"
	"univocal/language"
	"univocal/lengths"
)

// accepted returns for which numbers below n the automaton accepts a word of this length.
func accepted(d api.DFA, n int) []bool {
	reached := make([]bool, len(d.Next))
	reached[0] = true
	return table(n, func(int) bool {
		some := false
		to := make([]bool, len(d.Next))
		for q, row := range d.Next {
			some = some || reached[q] && d.Accept[q]
			for _, k := range row {
				to[k] = to[k] || reached[q]
			}
		}
		reached = to
		return some
	})
}

// P5.1, E3: Of returns the canonical form of the lengths. With 9 states, the sets of states repeat after at most 65 steps,
// with a period that divides the least common multiple of the numbers from 1 to 9.
func TestOf(t *testing.T) {
	for _, d := range machines(t, 300, 9) {
		start := 65
		if len(d.Next) > 9 {
			start = len(d.Next) * len(d.Next)
		}
		got, err := lengths.Of(d)
		check(t, "Of", got, err, accepted(d, start+2*2520), start)
	}
}

// P5.1, E3: a number is a member if there is a word of this length.
func TestOfCount(t *testing.T) {
	for _, d := range machines(t, 60, 8) {
		l, err := lengths.Of(d)
		ok(t, "Of", l, err)
		for n := range 65 {
			if c, err := language.Count(d, n); lengths.Has(l, n) != (c > 0 || err == api.ErrBig) {
				t.Fatalf("%v: %s, but %d words of %d bytes (%v)", d, text(l), c, n, err)
			}
		}
	}
}

// P5.1, E3: the chapter's example and other languages.
func TestOfExamples(t *testing.T) {
	for x, want := range map[string]string{
		"a(aa)*": "|01", "!": "|0", "()": "1|0", ".*": "|1", ".": "01|0", "ab|abc": "0011|0", "~()": "0|1", "(aaa)*|(bb)*": "|101110",
		"(aaa|bbbbb)*": "10010110|1", "[ab]{2,4}": "00111|0", "~(a*)": "0|1", "~(.*)": "|0", "(..)*&~(a*)": "0|01",
		"x(ab)*": "|01", "~((..)*)": "|01", "a{16,16}": "00000000000000001|0", "(aa)*&(aaa)*": "|100000",
	} {
		if got, err := lengths.Of(built(t, x)); err != api.OK || text(got) != want {
			t.Errorf("Of %s is %s, %v, want %s", x, text(got), err, want)
		}
	}
	for n := range 63 {
		d, _ := automaton.Word(make([]byte, n))
		l, err := lengths.Of(d)
		if ok(t, "Of", l, err); len(l.Head) != n+1 || len(l.Cycle) != 1 || l.Cycle[0] || lengths.Least(l, 0) != n {
			t.Errorf("a word of %d bytes: %s", n, text(l))
		}
	}
}

// flower returns an automaton that accepts all words shorter than stem. A byte behind stem - 1 bytes leads to a cycle, a
// letter for each of them, which accepts the first byte and then one of as many bytes as it is long; all other bytes lead
// to a state that accepts everything, if rest is true, or nothing.
func flower(stem int, cycles []int, rest bool) api.DFA {
	const names = "abcdefgh"
	_, others := letters(names[:len(cycles)])
	d := api.DFA{Classes: []api.Class{others}}
	state := func(to int, accept bool) int {
		row := make([]int, len(cycles)+1)
		for i := range row {
			row[i] = to
		}
		d.Next, d.Accept = append(d.Next, row), append(d.Accept, accept)
		return len(d.Next) - 1
	}
	for n := range stem {
		state(n+1, true)
	}
	end := state(stem, rest)
	for i, cycle := range cycles {
		c, _ := letters(names[i : i+1])
		d.Classes = append(d.Classes, c)
		first := len(d.Next)
		for n := range cycle {
			state(first+(n+1)%cycle, n == 0)
		}
		d.Next[stem-1][i+1] = first
	}
	d.Next[stem-1][0] = end
	return d
}

// P5.1, E3: results with 512 elements and with more, and small results of long sequences of sets.
func TestOfBig(t *testing.T) {
	for _, c := range []struct {
		stem        int
		cycles      []int
		rest        bool
		head, cycle int
		err         api.Errno
	}{
		{1, []int{5, 6, 17}, false, 1, 510, api.OK}, {2, []int{5, 6, 17}, false, 2, 510, api.OK},
		{3, []int{5, 6, 17}, false, 0, 0, api.ErrBig}, {1, []int{7, 8, 9}, false, 1, 504, api.OK},
		{8, []int{7, 8, 9}, false, 8, 504, api.OK}, {9, []int{7, 8, 9}, false, 0, 0, api.ErrBig},
		{1, []int{7, 9, 11}, false, 0, 0, api.ErrBig}, {1, []int{7, 9, 11}, true, 0, 1, api.OK},
		{62, []int{1}, false, 0, 1, api.OK}, {20, []int{43}, false, 20, 43, api.OK},
		{1, []int{3, 4, 5, 7, 11, 13, 17}, false, 0, 0, api.ErrBig}, {1, []int{3, 4, 5, 7, 11, 13, 17}, true, 0, 1, api.OK},
	} {
		d := flower(c.stem, c.cycles, c.rest)
		if !automaton.Valid(d) {
			t.Fatalf("%v is not valid", c)
		}
		got, err := lengths.Of(d)
		if err != c.err || len(got.Head) != c.head || len(got.Cycle) != c.cycle {
			t.Errorf("%v: head of %d, cycle of %d, %v", c, len(got.Head), len(got.Cycle), err)
			continue
		}
		for n := 0; err == api.OK && n < 1100; n++ {
			want := n < c.stem || c.rest
			for _, cycle := range c.cycles {
				want = want || (n-c.stem)%cycle == 0
			}
			if lengths.Has(got, n) != want {
				t.Fatalf("%v: Has(%d) is wrong", c, n)
			}
		}
	}
}

// P5.1, E3: an automaton that is not valid has no lengths.
func TestOfInvalid(t *testing.T) {
	for i, d := range broken() {
		if got, err := lengths.Of(d); err != api.ErrArg || !zero(got) {
			t.Errorf("invalid automaton %d: %s, %v", i, text(got), err)
		}
	}
}

// P5.1, P5.2: the result depends on the language alone, or rather on its lengths.
func TestOfForms(t *testing.T) {
	for _, l := range [][]string{
		{"(aa)*", "(ab)*", "(..)*", "()|aa|(aaa)*&(aa)*|a{4,4}(bb)*"}, {"a*", "()|b.*", "~(aa)|bb"}, {"!", "a&b", "~(.*)"},
	} {
		want, err := lengths.Of(built(t, l[0]))
		ok(t, "Of "+l[0], want, err)
		for _, x := range l {
			if got, err := lengths.Of(built(t, x)); err != api.OK || !same(got, want) {
				t.Errorf("Of %s is %s, %v, but Of %s is %s", x, text(got), err, l[0], text(want))
			}
		}
	}
	for _, d := range machines(t, 100, 7) {
		c, _ := automaton.Canon(d)
		x, errX := lengths.Of(d)
		y, errY := lengths.Of(c)
		if errX != errY || !same(x, y) {
			t.Fatalf("%v: %s, %v, but %s, %v of the canonical automaton", d, text(x), errX, text(y), errY)
		}
	}
}

// P5.5: the lengths of a union are the union of the lengths, and those of a concatenation their sums.
func TestOfLanguages(t *testing.T) {
	s := sequence()
	l := machines(t, 120, 5)
	of := func(d api.DFA) api.Lengths {
		x, err := lengths.Of(d)
		return ok(t, "Of", x, err)
	}
	joined := 0
	for range 400 {
		d, e := l[s.next(len(l))], l[s.next(len(l))]
		if u, err := automaton.Or(d, e); err == api.OK {
			want, err := lengths.Or(of(d), of(e))
			if ok(t, "Or", want, err); !same(of(u), want) {
				t.Fatalf("the union of %v and %v has the lengths %s, want %s", d, e, text(of(u)), text(want))
			}
		}
		if u, err := automaton.Concat(d, e); err == api.OK {
			joined++
			want, err := lengths.Sum(of(d), of(e))
			if ok(t, "Sum", want, err); !same(of(u), want) {
				t.Fatalf("%v followed by %v has the lengths %s, want %s", d, e, text(of(u)), text(want))
			}
		}
	}
	if joined < 200 {
		t.Errorf("only %d concatenations", joined)
	}
}
