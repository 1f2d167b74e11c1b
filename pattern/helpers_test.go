package pattern_test

import (
	"slices"
	"testing"

	"univocal/api"
	"univocal/automaton"
	"univocal/language"
	"univocal/pattern"
	"univocal/regex"
)

// numbers is a fixed sequence of numbers.
type numbers uint64

func (s *numbers) next(n int) int {
	x := uint64(*s)
	x ^= x << 13
	x ^= x >> 7
	x ^= x << 17
	*s = numbers(x)
	return int(x >> 33 % uint64(n))
}

func sequence() *numbers {
	s := numbers(88172645463325252)
	return &s
}

// made returns the pattern of texts of parts: `:` or, for a lazy part, `;` before the text of an expression.
func made(t *testing.T, texts ...string) api.Pattern {
	t.Helper()
	var p api.Pattern
	for _, s := range texts {
		x, _, err := regex.Parse(s[1:])
		if err != api.OK {
			t.Fatalf("Parse(%q): %v", s[1:], err)
		}
		p = append(p, api.Part{R: x, Lazy: s[0] == ';'})
	}
	return p
}

// expression returns the text of an expression with about n nodes.
func (s *numbers) expression(n int) string {
	if n <= 1 {
		return []string{"a", "b", "a", "b", ".", "()", "[ab]", "[^a]", "!"}[s.next(9-s.next(2))]
	}
	left := 1 + s.next(n-1)
	one := func() string { return "(" + s.expression(n-1) + ")" }
	two := func(between string) string {
		return "(" + s.expression(left) + ")" + between + "(" + s.expression(n-left) + ")"
	}
	switch s.next(8) {
	case 0, 1:
		return two("")
	case 2, 3, 4:
		return two("|")
	case 5:
		if s.next(2) == 0 {
			return "~" + one()
		}
	}
	return one() + []string{"*", "*", "+", "?", "{0,2}", "{2,}", "{1,3}"}[s.next(7)]
}

// texts returns the texts of up to four parts.
func (s *numbers) texts() []string {
	var l []string
	for range 1 + s.next(4) {
		l = append(l, []string{":", ";"}[s.next(2)]+s.expression(1+s.next(6)))
	}
	return l
}

// ordinary are the texts of patterns that have cases, most of them several.
var ordinary = [][]string{
	{":a*", ":[ab]*"}, {";a*", ":[ab]*"}, {":a*", ";[ab]*"}, {":ab?"}, {";()|a|ab"}, {":!"}, {";!"}, {":()"}, {";()"},
	{":a?", ":a?", ":a?"}, {";a?", ";a?", ";a?"}, {":a?", ";a?", ":a?"}, {";a?", ":a?", ";a?"},
	{":a|ab", ":c|bcd", ":d*"}, {";a|ab", ";c|bcd", ";d*"},
	{":!", ":a*"}, {":a*", ":!"}, {":a*", ";!", ":b*"}, {";!", ";a*", ":b?"},
	{":[^b]*", ":b", ":.*"}, {";.*", ":b", ":.*"}, {":.*", ":b", ":.*"}, {";.*", ";b|bb", ";.*"},
	{":(ab)*", ":(a|b)*", ";b?"}, {";(a|b)+", ":(ba)*", ":a*"}, {":~a", ":~b"}, {";~a", ";~(ab)"}, {":..?", ";..?", ":.?"},
	{":a*", ":a*", ":a*", ":a*", ":a*", ":a*"}, {";a?", ":b?", ";a?", ":b?", ";a?", ":b?"},
	{":ab|aabb|a?a?", ":b?b?c"}, {";.*", ":(a|b.)*|()"}, {";(a|b)*", ":()|a.|b"}, {";(aa)*", ":(aaa)*b"}, {":(aa)*", ":(aaa)*b?"},
	{`:[\x00\xff]*`, `:\xff*`, `;.?`},
}

func same(a, b api.DFA) bool {
	return slices.Equal(a.Classes, b.Classes) && slices.EqualFunc(a.Next, b.Next, slices.Equal) && slices.Equal(a.Accept, b.Accept)
}

// zero reports whether an automaton is the zero value.
func zero(d api.DFA) bool { return len(d.Classes) == 0 && len(d.Next) == 0 && len(d.Accept) == 0 }

func clone(d api.DFA) api.DFA {
	c := api.DFA{Classes: slices.Clone(d.Classes), Accept: slices.Clone(d.Accept)}
	for _, row := range d.Next {
		c.Next = append(c.Next, slices.Clone(row))
	}
	return c
}

// built returns the automaton of an expression, which has to have one.
func built(t *testing.T, x api.Regex) api.DFA {
	t.Helper()
	d, err := language.Build(x)
	if err != api.OK {
		t.Fatalf("Build of %v: %v", x, err)
	}
	return d
}

// joined returns the language of a pattern as the chapter says: from the last two parts on.
func joined(t *testing.T, p api.Pattern) (api.DFA, api.Errno) {
	t.Helper()
	if len(p) == 1 {
		return built(t, p[0].R), api.OK
	}
	d, err := joined(t, p[1:])
	if err != api.OK {
		return api.DFA{}, err
	}
	return automaton.Concat(built(t, p[0].R), d)
}

// cases returns the cases of a pattern, which has to have them.
func cases(t *testing.T, p api.Pattern) []api.Case {
	t.Helper()
	l, err := pattern.Cases(p)
	if err != api.OK {
		t.Fatalf("Cases of %v: %v", p, err)
	}
	return l
}

// words returns all words over the alphabet of at most n bytes.
func words(alphabet string, n int) []string {
	l := []string{""}
	for from := 0; n > 0; n-- {
		to := len(l)
		for ; from < to; from++ {
			for i := range len(alphabet) {
				l = append(l, l[from]+alphabet[i:i+1])
			}
		}
	}
	return l
}
