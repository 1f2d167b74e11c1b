package pattern_test

import (
	"slices"
	"strconv"
	"strings"
	"testing"

	"univocal/api"
	"univocal/automaton"
	"univocal/pattern"
)

// agree fails unless Cases returns what the chapter says. It returns the number of cases, and the reasons why a pattern is too
// big.
func agree(t *testing.T, texts []string) (int, []string) {
	t.Helper()
	p := made(t, texts...)
	got, err := pattern.Cases(p)
	if _, fails := joined(t, p); fails != api.OK {
		if err != fails || got != nil {
			t.Fatalf("%q: %d cases, %v, without a language", texts, len(got), err)
		}
		return 0, []string{"language"}
	}
	l, big := readings(t, p)
	count := 1
	for _, x := range l {
		count = min(count*len(x.rests), 1<<30)
	}
	if len(big) == 0 && count > 256 {
		big = []string{"cases"}
	}
	if len(big) > 0 {
		if err != api.ErrBig || len(got) != 0 {
			t.Fatalf("%q: %d cases, %v, want ErrBig because of %q", texts, len(got), err, big)
		}
		return 0, big
	}
	if err != api.OK || len(got) != count {
		t.Fatalf("%q: %d cases, %v, want %d", texts, len(got), err, count)
	}
	compare(t, texts, l, got)
	return count, nil
}

// compare fails unless the cases are all combinations of the options, in lexicographic order.
func compare(t *testing.T, texts []string, l []reading, got []api.Case) {
	t.Helper()
	heads := make([][]api.DFA, len(l))
	at := make([]int, len(l))
	for n, c := range got {
		if len(c.Heads) != len(l) || len(c.Rests) != len(l) {
			t.Fatalf("%q: case %d has %d heads and %d rests", texts, n, len(c.Heads), len(c.Rests))
		}
		for i, k := range at {
			if k == len(heads[i]) {
				l[i].check(t, "head", c.Heads[i], k)
				heads[i] = append(heads[i], c.Heads[i])
			}
			if !same(c.Heads[i], heads[i][k]) || !same(c.Rests[i], l[i].rests[k]) {
				t.Fatalf("%q: part %d of case %d is not option %d: %v", texts, i, n, k, c)
			}
		}
		// The options of the last part change first.
		for i := len(at) - 1; i >= 0; i-- {
			if at[i]++; at[i] < len(l[i].rests) {
				break
			}
			at[i] = 0
		}
	}
}

// P6.1, F4: the cases are the combinations of the options as the chapter defines them.
func TestCases(t *testing.T) {
	for _, texts := range ordinary {
		if _, big := agree(t, texts); len(big) > 0 {
			t.Errorf("%q is too big: %q", texts, big)
		}
	}
}

// P6.1, F4: the same for patterns of all kinds.
func TestRandomCases(t *testing.T) {
	s := sequence()
	fail := 0
	for range 700 {
		if _, big := agree(t, s.texts()); len(big) > 0 {
			fail++
		}
	}
	if fail > 250 {
		t.Errorf("%d patterns are too big", fail)
	}
}

// meant returns the automaton of the text of an expression.
func meant(t *testing.T, text string) api.DFA {
	t.Helper()
	return built(t, made(t, ":"+text)[0].R)
}

// P6.1, F4: the chapter's examples, and others whose cases are easy to see.
func TestCasesExamples(t *testing.T) {
	for _, c := range []struct {
		texts []string
		// Each row contains the heads and then the rests of a case.
		want [][]string
	}{
		{[]string{":a*", ":[ab]*"}, [][]string{{"a*", "[ab]*", "()|b[ab]*", "()"}}},
		{[]string{";a*", ":[ab]*"}, [][]string{{"()", "[ab]*", "[ab]*", "()"}}},
		{[]string{":()"}, [][]string{{"()", "()"}}},
		{[]string{";~a"}, [][]string{{"~a", "()"}}},
		{[]string{":!"}, nil},
		{[]string{":a", ":!"}, nil},
		{[]string{";!", ":a"}, nil},
		// The word ab takes the b, unless there is none.
		{[]string{":a|ab", ":b?"}, [][]string{{"a", "b?", "()", "()"}, {"ab", "b?", "b?", "()"}}},
		{[]string{";a|ab", ":b?"}, [][]string{{"a", "b?", "b?", "()"}, {"ab", "b?", "b", "()"}}},
		// Each part has two options.
		{[]string{":a?", ":a?", ":a?"}, [][]string{
			{"()", "()", "a?", "()", "()", "()"}, {"()", "a", "a?", "()", "a?", "()"},
			{"a", "()", "a?", "a{0,2}", "()", "()"}, {"a", "a", "a?", "a{0,2}", "a?", "()"},
		}},
		// The option of the least word comes first, also where its rests are the greater ones.
		{[]string{":b?a?", ":b?"}, [][]string{{"()", "b?", "()", "()"}, {"a|b|ba", "b?", "b?", "()"}}},
		{[]string{":ba|c|ca", ":a?"}, [][]string{{"c", "a?", "()", "()"}, {"ba|ca", "a?", "a?", "()"}}},
	} {
		if c.want == nil {
			if l := cases(t, made(t, c.texts...)); len(l) != 0 {
				t.Errorf("%q has the cases %v", c.texts, l)
			}
			continue
		}
		l := cases(t, made(t, c.texts...))
		if len(l) != len(c.want) {
			t.Fatalf("%q has the cases %v", c.texts, l)
		}
		for n, row := range c.want {
			for i, d := range slices.Concat(l[n].Heads, l[n].Rests) {
				if !same(d, meant(t, row[i])) {
					t.Errorf("%q, case %d: %v is not %q", c.texts, n, d, row[i])
				}
			}
		}
	}
}

// fits reports whether the words of a division have the heads and the rests of a case.
func fits(c api.Case, l []string) bool {
	for i, y := range l {
		rest := strings.Join(l[i+1:], "")
		if !automaton.Accepts(c.Heads[i], []byte(y)) || !automaton.Accepts(c.Rests[i], []byte(rest)) {
			return false
		}
	}
	return true
}

// P6.4: Match returns a division if and only if a case describes it, and then there is one such case.
func TestCasesDescribeDivisions(t *testing.T) {
	found := 0
	for _, texts := range patterns(250) {
		p := made(t, texts...)
		c, err := pattern.Cases(p)
		if err != api.OK {
			continue
		}
		d := dividerOf(p)
		for _, w := range append(words("ab", 4), "c", "ac", "cb", "abc", "a\x00") {
			best, _ := d.one(w)
			for _, l := range d.all(0, w) {
				n := 0
				for i := range c {
					if fits(c[i], l) {
						n++
					}
				}
				want := 0
				if slices.Equal(l, best) {
					want = 1
				}
				if n != want {
					t.Fatalf("%q: %d cases describe the division of %q into %q, want %d", texts, n, w, l, want)
				}
				found += n
			}
		}
	}
	if found < 1000 {
		t.Errorf("only %d divisions", found)
	}
}

// P6.5: the heads of two options have no common word; equal heads belong to equal rests.
func TestDisjointOptions(t *testing.T) {
	several := 0
	for _, texts := range patterns(250) {
		c, err := pattern.Cases(made(t, texts...))
		if err != api.OK {
			continue
		}
		for i := range c {
			for j := range i {
				for k := range c[i].Heads {
					if same(c[i].Heads[k], c[j].Heads[k]) {
						if !same(c[i].Rests[k], c[j].Rests[k]) {
							t.Fatalf("%q: the cases %d and %d have equal heads for part %d", texts, j, i, k)
						}
						continue
					}
					common, err := automaton.And(c[i].Heads[k], c[j].Heads[k])
					if w, some := automaton.Least(common); err != api.OK || some {
						t.Fatalf("%q: the heads of the cases %d and %d for part %d have the common word %q", texts, j, i, k, w)
					}
					several++
				}
			}
		}
	}
	if several < 300 {
		t.Errorf("only %d pairs of options", several)
	}
}

// nest returns the text of the words of k times left and then k times right, for every k up to n.
func nest(left, right string, n int) string {
	return strings.Repeat("("+left, n) + strings.Repeat(right+")?", n)
}

// choosing returns two parts, of which the first has n + 1 options: after k times a it can take k times b, so that it leaves
// the second part less of them, but for the word that has them already.
func choosing(n int) []string {
	most := strconv.Itoa(n)
	return []string{":" + nest("a", "b", n) + "|a{0," + most + "}", ":b{0," + most + "}c"}
}

// blocking returns a lazy part with an option for each set of the last 8 letters: where the letter k + 1 from the end is an a,
// the second part takes the letters from there on together with k times d, so that this rest is not admitted.
func blocking(word, rest string) []string {
	return []string{";[ab]*" + word, ":(a" + nest("[ab]", "d", 7) + "|d{0,7})e" + rest}
}

// P6.1, F4: the number of cases is limited, that of options is not.
func TestCasesLimit(t *testing.T) {
	for _, c := range []struct {
		texts []string
		want  int
	}{
		{choosing(15), 16},
		{slices.Concat(choosing(3), choosing(7), choosing(7)), 256},
		{blocking("", ""), 256},
		{append([]string{":!"}, blocking("|x", "|x?f")...), 0},
		{append(blocking("|x", "|x?f"), ":!"), 0},
		{append(blocking("|x", "|x?f"), ";a", ":!", ":b"), 0},
	} {
		if n, big := agree(t, c.texts); len(big) > 0 || n != c.want {
			t.Errorf("%q: %d cases, too big because of %q, want %d", c.texts, n, big, c.want)
		}
	}
	for _, texts := range [][]string{
		slices.Concat(choosing(3), choosing(4), choosing(12)), blocking("|x", "|x?f"),
	} {
		if _, big := agree(t, texts); !slices.Equal(big, []string{"cases"}) {
			t.Errorf("%q: too big because of %q", texts, big)
		}
	}
}

// The first of these parts leads to as many pairs as a lazy part may have, the second one to one pair more, where the words
// that follow are those of the third one.
const (
	most = ";[^d]*(d[^d]*){0,13}|d{14,14}eee"
	more = most + "e"
	last = ":(a[abd]{4,4})*|(..)*|(a[abd]{4,4}a[abd]{4,4})*eeccb"
)

// P6.1, F4: each construction that may be too large, where it is not and where it just is.
func TestConstructionLimits(t *testing.T) {
	for _, c := range []struct {
		texts []string
		big   string
	}{
		// The words that make a word of the part longer, 62 or 63 letters at once.
		{[]string{":(aa)*&(a{16,16}a{15,15})*"}, ""},
		{[]string{":(a{7,7})*&(a{9,9})*"}, "more"},
		{[]string{";(a{7,7})*&(a{9,9})*"}, ""},
		{[]string{":b", ":(a{7,7})*&(a{9,9})*", ":!"}, "more"},
		// These words with the rests behind them.
		{[]string{":()|.|(a{16,16}a{14,14})+", ":(..)*"}, ""},
		{[]string{":()|.|(a{16,16}a{15,15})+", ":(..)*"}, "taken"},
		{[]string{";()|.|(a{16,16}a{15,15})+", ":(..)*"}, ""},
		// The rests without them.
		{[]string{":cb?", ":(a{16,16}a{15,15})*|ba*"}, ""},
		{[]string{":cb?", ":(a{16,16}a{16,16})*|ba*"}, "left"},
		{[]string{";cb?", ":(a{16,16}a{16,16})*|ba*"}, ""},
		// The pairs of a lazy part.
		{[]string{most, last}, ""},
		{[]string{more, last}, "pairs"},
		{[]string{":" + more[1:], last}, ""},
		{[]string{more, last, ":b*"}, "pairs"},
		// The rests that ends of a word could take, which are simple again when all of them are united.
		{[]string{";()|c|cb|cbf", ":a*|f(a{7,7})*|bf(a{9,9})*|cbf(a*|g)"}, ""},
		{[]string{";()|c|cb|cbf", ":a*|f(a{7,7})*|bf(a{10,10})*|cbf(a*|g)"}, "union"},
		{[]string{":()|c|cb|cbf", ":a*|f(a{7,7})*|bf(a{9,9})*|cbf(a*|g)"}, ""},
		// They are always simple if the states are in another order.
		{[]string{";()|c|cb|cbf", ":a*|f(a{7,7})*|bf(a{10,10})*|cbfa*"}, ""},
		// The rests that no end of a word could take.
		{[]string{";cb?", ":a*|b(a{16,16}a{15,15})*"}, ""},
		{[]string{";cb?", ":a*|b(a{16,16}a{16,16})*"}, "rest"},
		{[]string{":cb?", ":a*|b(a{16,16}a{16,16})*"}, ""},
		// An option with words of up to 62 or 63 letters.
		{[]string{";(a{16,16}a{15,15})*", ":(aaa)*b"}, ""},
		{[]string{";(a{9,9})*", ":(a{8,8})*b"}, "option"},
		{[]string{":!", ";(a{9,9})*", ":(a{8,8})*b"}, "option"},
	} {
		var want []string
		if c.big != "" {
			want = []string{c.big}
		}
		if _, big := agree(t, c.texts); !slices.Equal(big, want) {
			t.Errorf("%q: too big because of %q, want %q", c.texts, big, want)
		}
	}
}

// The parts above have just as many pairs as they are said to have.
func TestPairs(t *testing.T) {
	for text, want := range map[string]int{most: 4096, more: 4097} {
		if l, _ := pairs(meant(t, text[1:]), meant(t, last[1:]), 5000); len(l) != want {
			t.Errorf("%q: %d pairs, want %d", text, len(l), want)
		}
	}
}
