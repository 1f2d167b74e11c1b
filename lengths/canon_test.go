package lengths_test

import (
	"testing"

	"univocal/api"
	"univocal/lengths"
)

// P5.1, E2: the chapter's examples and other forms.
func TestCanonExamples(t *testing.T) {
	for from, want := range map[string]string{
		"1010|10": "|10", "|0": "|0", "000|00": "|0", "1|1": "|1", "|1111": "|1", "0|1": "0|1", "1|0": "1|0",
		"01|01": "|01", "0|10": "|01", "1|10": "1|10", "|110110": "|110", "|1101": "|1101", "0000001|0": "0000001|0",
		"10|110110": "|101", "00|110110": "0|011", "0|110110": "|011", "1|011": "|101", "11|011011": "|110", "1101|1101": "|1101",
	} {
		if got, err := lengths.Canon(set(from)); err != api.OK || text(got) != want {
			t.Errorf("Canon(%s) is %s, %v, want %s", from, text(got), err, want)
		}
	}
}

// P5.1, P5.2, E2: among all small sets with the same members, Canon returns the one with the smallest cycle and then head,
// which is the only one. (The canonical form of a set has no more elements than the set.)
func TestCanonSmall(t *testing.T) {
	best := map[string]api.Lengths{}
	count := map[string]int{}
	// Heads are shorter than 7, and periods up to 7 that agree on 49 numbers agree for ever.
	members := func(l api.Lengths) string {
		return text(api.Lengths{Cycle: table(60, func(n int) bool { return member(l, n) })})
	}
	sets := all(7)
	for _, l := range sets {
		m := members(l)
		b, known := best[m]
		switch {
		case !known || len(l.Cycle) < len(b.Cycle) || len(l.Cycle) == len(b.Cycle) && len(l.Head) < len(b.Head):
			best[m], count[m] = l, 1
		case len(l.Cycle) == len(b.Cycle) && len(l.Head) == len(b.Head):
			count[m]++
		}
	}
	for _, l := range sets {
		m := members(l)
		if got, err := lengths.Canon(l); count[m] != 1 || err != api.OK || !same(got, best[m]) {
			t.Fatalf("Canon(%s) is %s, %v, want %s (%d forms)", text(l), text(got), err, text(best[m]), count[m])
		}
	}
}

// P5.1, P5.2, E2: Canon returns the canonical form, which it leaves alone.
func TestCanonSamples(t *testing.T) {
	s := sequence()
	l := samples(80)
	for i := range 120 {
		// A set that is written with a longer head and several cycles.
		of := s.some(20, 12)
		h, c := len(of.Head)+s.next(30), len(of.Cycle)*(1+s.next(5))
		long := table(h+c, func(n int) bool { return member(of, n) })
		if i%3 == 0 {
			k := s.next(h + c)
			long[k] = !long[k]
		}
		l = append(l, api.Lengths{Head: long[:h:h], Cycle: long[h:]})
	}
	for _, x := range l {
		got, err := lengths.Canon(x)
		check(t, "Canon of "+text(x), got, err, table(1100, func(n int) bool { return member(x, n) }), len(x.Head))
		if again, err := lengths.Canon(got); err != api.OK || !same(got, again) {
			t.Fatalf("Canon changes %s to %s, %v", text(got), text(again), err)
		}
	}
}

// P5.1, E2: the largest sets have canonical forms, which may be the sets themselves.
func TestCanonLargest(t *testing.T) {
	one := api.Lengths{Cycle: make([]bool, 512)}
	one.Cycle[300] = true
	late := api.Lengths{Head: make([]bool, 511), Cycle: []bool{false}}
	late.Head[510] = true
	for _, l := range []api.Lengths{one, late} {
		if got := canon(t, l); !same(got, l) {
			t.Errorf("%s becomes %s", text(l), text(got))
		}
	}
	if got := canon(t, api.Lengths{Head: make([]bool, 200), Cycle: make([]bool, 312)}); text(got) != "|0" {
		t.Errorf("the empty set: %s", text(got))
	}
	// The head continues the cycle backwards, but for its first element.
	l := api.Lengths{Head: make([]bool, 256), Cycle: make([]bool, 256)}
	for n := range 256 {
		l.Head[n], l.Cycle[n] = n%16 == 3 || n == 0, n%16 == 3
	}
	if got := text(canon(t, l)); got != "1|0010000000000000" {
		t.Errorf("head of 256: %s", got)
	}
}

// P5.2: two sets are equal if and only if their canonical forms are.
func TestCanonEqual(t *testing.T) {
	sets := all(5)
	for _, a := range sets {
		for _, b := range sets {
			equal := true
			for n := range 40 {
				equal = equal && member(a, n) == member(b, n)
			}
			if same(canon(t, a), canon(t, b)) != equal {
				t.Fatalf("%s and %s become %s and %s", text(a), text(b), text(canon(t, a)), text(canon(t, b)))
			}
		}
	}
}

// P5.1, E2: a set that is not valid has no canonical form.
func TestCanonInvalid(t *testing.T) {
	for i, l := range invalid() {
		if got, err := lengths.Canon(l); err != api.ErrArg || !zero(got) {
			t.Errorf("invalid set %d: %s, %v", i, text(got), err)
		}
	}
}
