package pattern_test

import (
	"slices"
	"strconv"
	"strings"
	"testing"

	"univocal/api"
	"univocal/automaton"
	"univocal/pattern"
	"univocal/regex"
)

// A divider finds divisions by their definition. It keeps which words match which parts.
type divider struct {
	p    api.Pattern
	seen map[string]bool
}

func dividerOf(p api.Pattern) divider { return divider{p, map[string]bool{}} }

// takes reports whether w is in the language of part i.
func (d divider) takes(i int, w string) bool {
	key := strconv.Itoa(i) + w
	is, known := d.seen[key]
	if !known {
		is = regex.Match(d.p[i].R, []byte(w))
		d.seen[key] = is
	}
	return is
}

// all returns all divisions of w by the parts from i on, as lists of the words.
func (d divider) all(i int, w string) [][]string {
	if i == len(d.p) {
		if w == "" {
			return [][]string{nil}
		}
		return nil
	}
	var l [][]string
	for k := range len(w) + 1 {
		if !d.takes(i, w[:k]) {
			continue
		}
		for _, rest := range d.all(i+1, w[k:]) {
			l = append(l, append([]string{w[:k]}, rest...))
		}
	}
	return l
}

// one returns the division of w, as the chapter determines it from part 0 on, and whether there is one.
func (d divider) one(w string) ([]string, bool) {
	var l []string
	for i, part := range d.p {
		best := -1
		for k := range len(w) + 1 {
			if d.takes(i, w[:k]) && len(d.all(i+1, w[k:])) > 0 && (best < 0 || !part.Lazy) {
				best = k
			}
		}
		if best < 0 {
			return nil, false
		}
		l = append(l, w[:best])
		w = w[best:]
	}
	return l, true
}

// matched returns the words of the division that Match returns. They have to cover w one after the other.
func matched(t *testing.T, p api.Pattern, w string) ([]string, bool) {
	t.Helper()
	l, ok := pattern.Match(p, []byte(w))
	if !ok {
		if len(l) != 0 {
			t.Fatalf("%v: %q does not match, but has the parts %v", p, w, l)
		}
		return nil, false
	}
	var parts []string
	at := 0
	for _, s := range l {
		if s.From != at || s.To < at || s.To > len(w) {
			t.Fatalf("%v: %v does not follow in %q", p, l, w)
		}
		parts = append(parts, w[s.From:s.To])
		at = s.To
	}
	if at != len(w) || len(l) != len(p) {
		t.Fatalf("%v: %v does not cover %q", p, l, w)
	}
	return parts, true
}

// patterns returns the texts of ordinary patterns and of n random ones.
func patterns(n int) [][]string {
	s := sequence()
	l := slices.Clone(ordinary)
	for range n {
		l = append(l, s.texts())
	}
	return l
}

// samples are words over the letters that the expressions of patterns tell apart.
func samples() []string { return append(words("ab", 5), words("abc\x00\xff", 2)...) }

// P6.1, F2: Match returns the division of every word that has one.
func TestMatch(t *testing.T) {
	for _, texts := range patterns(120) {
		p := made(t, texts...)
		d := dividerOf(p)
		for _, w := range samples() {
			want, is := d.one(w)
			if got, ok := matched(t, p, w); ok != is || !slices.Equal(got, want) {
				t.Fatalf("%q: %q is divided into %q, %v, want %q, %v", texts, w, got, ok, want, is)
			}
		}
	}
}

// P6.2: the parts are words of their languages, and a word matches if and only if the language accepts it.
func TestMatchLanguage(t *testing.T) {
	for _, texts := range patterns(120) {
		p := made(t, texts...)
		d, err := pattern.Language(p)
		for _, w := range samples() {
			l, ok := matched(t, p, w)
			if err == api.OK && ok != automaton.Accepts(d, []byte(w)) {
				t.Fatalf("%q: %q is wrong", texts, w)
			}
			for i, y := range l {
				if !regex.Match(p[i].R, []byte(y)) {
					t.Fatalf("%q: %q is divided into %q", texts, w, l)
				}
			}
		}
	}
}

// P6.3: no division has a better word for the first part in which it differs.
func TestPriority(t *testing.T) {
	several := 0
	for _, texts := range patterns(120) {
		p := made(t, texts...)
		d := dividerOf(p)
		for _, w := range words("ab", 4) {
			l := d.all(0, w)
			best, ok := matched(t, p, w)
			if ok != (len(l) > 0) {
				t.Fatalf("%q: %q has %d divisions, but %v", texts, w, len(l), ok)
			}
			for _, other := range l {
				i := 0
				for i < len(p) && len(best[i]) == len(other[i]) {
					i++
				}
				if i < len(p) && p[i].Lazy != (len(best[i]) < len(other[i])) {
					t.Fatalf("%q: %q is divided into %q instead of %q", texts, w, best, other)
				}
			}
			if len(l) > 1 {
				several++
			}
		}
	}
	if several < 300 {
		t.Errorf("only %d words have several divisions", several)
	}
}

// P6.6: a word with a single division is divided so whether parts are lazy or not.
func TestSingleDivision(t *testing.T) {
	for _, texts := range patterns(120) {
		p := made(t, texts...)
		d := dividerOf(p)
		for _, w := range words("ab", 4) {
			l := d.all(0, w)
			if len(l) != 1 {
				continue
			}
			for flags := range 1 << len(p) {
				for i := range p {
					p[i].Lazy = flags>>i&1 == 1
				}
				if got, ok := matched(t, p, w); !ok || !slices.Equal(got, l[0]) {
					t.Fatalf("%q, lazy %b: %q is divided into %q instead of %q", texts, flags, w, got, l[0])
				}
			}
		}
	}
}

// P6.1, F2: the chapter's examples, the empty word, and words that do not match.
func TestMatchExamples(t *testing.T) {
	for _, c := range []struct {
		texts []string
		w     string
		want  []api.Span
	}{
		{[]string{":a*", ":[ab]*"}, "aab", []api.Span{{From: 0, To: 2}, {From: 2, To: 3}}},
		{[]string{";a*", ":[ab]*"}, "aab", []api.Span{{From: 0, To: 0}, {From: 0, To: 3}}},
		{[]string{":a*", ":[ab]*"}, "", []api.Span{{}, {}}},
		{[]string{":a*", ":[ab]*"}, "aac", nil},
		{[]string{":a"}, "", nil},
		{[]string{":a"}, "aa", nil},
		{[]string{":!"}, "", nil},
		{[]string{":a*", ":!"}, "a", nil},
		{[]string{":()"}, "", []api.Span{{}}},
		{[]string{":.*", ":b", ":.*"}, "abab", []api.Span{{From: 0, To: 3}, {From: 3, To: 4}, {From: 4, To: 4}}},
		{[]string{";.*", ":b", ":.*"}, "abab", []api.Span{{From: 0, To: 1}, {From: 1, To: 2}, {From: 2, To: 4}}},
		{[]string{":a|ab", ":c|bcd", ":d*"}, "abcd", []api.Span{{From: 0, To: 2}, {From: 2, To: 3}, {From: 3, To: 4}}},
		{[]string{":a|ab", ":c|bcd"}, "abcd", []api.Span{{From: 0, To: 1}, {From: 1, To: 4}}},
		{[]string{":a?", ":a?", ":a?", ":a?", ":a?", ":a?"}, "aaaa", []api.Span{{From: 0, To: 1}, {From: 1, To: 2}, {From: 2, To: 3}, {From: 3, To: 4}, {From: 4, To: 4}, {From: 4, To: 4}}},
		{[]string{";a?", ";a?", ";a?", ";a?", ";a?", ";a?"}, "aa", []api.Span{{}, {}, {}, {}, {From: 0, To: 1}, {From: 1, To: 2}}},
		{[]string{`:\x00*`, `:[\x80-\xff]*`}, "\x00\x00\xff\x80", []api.Span{{From: 0, To: 2}, {From: 2, To: 4}}},
	} {
		got, ok := pattern.Match(made(t, c.texts...), []byte(c.w))
		if ok != (c.want != nil) || !slices.Equal(got, c.want) {
			t.Errorf("%q: %q is divided into %v, %v, want %v", c.texts, c.w, got, ok, c.want)
		}
	}
}

// P6.1, F2: automata with as many states as possible, whose last state is needed, and patterns without a language.
func TestMatchLimits(t *testing.T) {
	a := func(n int) string { return strings.Repeat("a", n) }
	circle, few := "(a{7,7})*&(a{9,9})*", ":(a{0,16}){3,3}a{0,13}"
	for _, c := range []struct {
		texts []string
		w     string
		ends  []int
	}{
		{[]string{":a{16,16}{3,3}a{14,14}"}, a(62), []int{62}},
		{[]string{":a{16,16}{3,3}a{14,14}"}, a(61), nil},
		{[]string{":a{16,16}{3,3}a{14,14}", ";a{16,16}{3,3}a{14,14}"}, a(124), []int{62, 124}},
		{[]string{":" + circle}, a(63 * 40), []int{63 * 40}},
		{[]string{":" + circle}, a(63*40 - 1), nil},
		{[]string{":" + circle, few}, a(63*40 - 2), []int{63 * 39, 63*40 - 2}},
		{[]string{";" + circle, few + "a*"}, a(63*40 - 2), []int{0, 63*40 - 2}},
		{[]string{";" + circle, few}, a(63*40 - 2), []int{63 * 39, 63*40 - 2}},
		{[]string{":.*", ":a[ab]{12,12}"}, "ab" + a(20), []int{9, 22}},
		{[]string{":.*", ":a[ab]{12,12}"}, "aaab" + a(12), nil},
		{[]string{":!", ":.*", ":a[ab]{12,12}"}, a(20), nil},
	} {
		l, ok := pattern.Match(made(t, c.texts...), []byte(c.w))
		var ends []int
		for _, s := range l {
			ends = append(ends, s.To)
		}
		if ok != (c.ends != nil) || !slices.Equal(ends, c.ends) {
			t.Errorf("%q: %d bytes are divided at %v, want %v", c.texts, len(c.w), ends, c.ends)
		}
	}
}

// P6.1, F2: long words are divided as well.
func TestMatchLongWords(t *testing.T) {
	for _, n := range []int{4096, 300000} {
		w := strings.Repeat("ab,", n/3)
		n = len(w)
		for _, c := range []struct {
			texts []string
			ends  []int
		}{
			{[]string{":[^,]*", ":,", ":.*"}, []int{2, 3, n}},
			{[]string{":.*", ":,", ";.*"}, []int{n - 1, n, n}},
			{[]string{";.*", ";,", ";.*", ";,", ";.*"}, []int{2, 3, 5, 6, n}},
			{[]string{":.*", ":,", ":.*", ":,", ":.*"}, []int{n - 4, n - 3, n - 1, n, n}},
			{[]string{":(ab,)*", ":(ab,)*", ":(ab,)*", ":(ab,)*", ":(ab,)*", ":(ab,)*"}, []int{n, n, n, n, n, n}},
			{[]string{";(ab,)*", ";(ab,)*", ";(ab,)*", ";(ab,)*", ";(ab,)*", ";(ab,)*"}, []int{0, 0, 0, 0, 0, n}},
			{[]string{":(ab,)*", ":a"}, nil},
		} {
			l, ok := pattern.Match(made(t, c.texts...), []byte(w))
			var ends []int
			for _, s := range l {
				ends = append(ends, s.To)
			}
			if ok != (c.ends != nil) || !slices.Equal(ends, c.ends) {
				t.Errorf("%q: %d bytes are divided at %v, want %v", c.texts, n, ends, c.ends)
			}
		}
	}
}
