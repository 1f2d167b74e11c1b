package pattern_test

import (
	"strings"
	"testing"

	"univocal/api"
	"univocal/automaton"
	"univocal/pattern"
)

// part returns the part of an expression.
func part(x ...api.RegexNode) api.Part { return api.Part{R: x} }

// These expressions are not valid, too long and too large for an automaton.
var (
	wrong = part(api.RegexNode{Kind: 9})
	long  = part(make(api.Regex, 201)...)
	often = part(api.RegexNode{Kind: api.RxEmpty}, api.RegexNode{Kind: api.RxRepeat, Min: 17, Max: 17})
	empty = part()
)

// failing are patterns that are not valid, and their errors.
func failing(t *testing.T) map[string]struct {
	p    api.Pattern
	want api.Errno
} {
	t.Helper()
	a := made(t, ":a")[0]
	big := made(t, ";a{16,16}{5,5}")[0]
	return map[string]struct {
		p    api.Pattern
		want api.Errno
	}{
		"nothing":               {nil, api.ErrArg},
		"no parts":              {api.Pattern{}, api.ErrArg},
		"7 parts":               {api.Pattern{a, a, a, a, a, a, a}, api.ErrBig},
		"7 parts, one wrong":    {api.Pattern{wrong, a, a, a, a, a, a}, api.ErrBig},
		"7 empty parts":         {make(api.Pattern, 7), api.ErrBig},
		"an empty part":         {api.Pattern{empty}, api.ErrArg},
		"a wrong kind":          {api.Pattern{wrong}, api.ErrArg},
		"201 nodes":             {api.Pattern{long}, api.ErrBig},
		"17 times":              {api.Pattern{often}, api.ErrBig},
		"a large automaton":     {api.Pattern{big}, api.ErrBig},
		"wrong, then large":     {api.Pattern{a, wrong, big}, api.ErrArg},
		"large, then wrong":     {api.Pattern{a, big, wrong}, api.ErrBig},
		"wrong at the end":      {api.Pattern{a, a, a, a, a, wrong}, api.ErrArg},
		"large at the end":      {api.Pattern{a, a, a, a, a, big}, api.ErrBig},
		"a part beside nothing": {api.Pattern{made(t, ":!")[0], wrong}, api.ErrArg},
	}
}

// P6.1, F1: Valid returns the first error.
func TestValid(t *testing.T) {
	for what, c := range failing(t) {
		if err := pattern.Valid(c.p); err != c.want {
			t.Errorf("%s: %v, want %v", what, err, c.want)
		}
	}
	for _, texts := range ordinary {
		if err := pattern.Valid(made(t, texts...)); err != api.OK {
			t.Errorf("%q: %v", texts, err)
		}
	}
	// The language of the whole pattern does not matter.
	for _, texts := range unlimited {
		if err := pattern.Valid(made(t, texts...)); err != api.OK {
			t.Errorf("%q: %v", texts, err)
		}
	}
}

// P6.1, F1 to F4: the other functions have no result for a pattern that is not valid.
func TestInvalid(t *testing.T) {
	for what, c := range failing(t) {
		if l, ok := pattern.Match(c.p, []byte("a")); ok || len(l) != 0 {
			t.Errorf("Match, %s: %v", what, l)
		}
		if l, ok := pattern.Match(c.p, nil); ok || len(l) != 0 {
			t.Errorf("Match without bytes, %s: %v", what, l)
		}
		if d, err := pattern.Language(c.p); err != c.want || !zero(d) {
			t.Errorf("Language, %s: %v, %v", what, d, err)
		}
		if l, err := pattern.Cases(c.p); err != c.want || len(l) != 0 {
			t.Errorf("Cases, %s: %v, %v", what, l, err)
		}
	}
}

// P6.1, F3: the language is the concatenation of the parts, from the last two parts on.
func TestLanguage(t *testing.T) {
	s := sequence()
	l := append([][]string{}, ordinary...)
	for range 300 {
		l = append(l, s.texts())
	}
	for _, texts := range l {
		p := made(t, texts...)
		want, fails := joined(t, p)
		if d, err := pattern.Language(p); err != fails || !same(d, want) {
			t.Fatalf("%q: %v, %v, want %v, %v", texts, d, err, want, fails)
		}
	}
}

// These patterns are valid and have no language. The expression in the first ones says which letter was read 13 letters ago.
var unlimited = [][]string{
	{":.*", ":a[ab]{12,12}"}, {";.*", ";a[ab]{12,12}"}, {":!", ":.*", ":a[ab]{12,12}"}, {":a?", ":!", ":.*", ":a[ab]{12,12}"},
	{":a{16,16}{2,2}", ":a{16,16}{2,2}"}, {":!", ":a{16,16}{2,2}", ";a{16,16}{2,2}"},
	{":(a{7,7})*&(a{9,9})*", ":b{0,3}"},
}

// P6.1, F3: an error shows where the computation begins.
func TestLanguageOrder(t *testing.T) {
	for _, texts := range unlimited {
		if d, err := pattern.Language(made(t, texts...)); err != api.ErrBig || !zero(d) {
			t.Errorf("%q: %v, %v", texts, d, err)
		}
		if l, err := pattern.Cases(made(t, texts...)); err != api.ErrBig || len(l) != 0 {
			t.Errorf("%q: %d cases, %v", texts, len(l), err)
		}
	}
	// The first two of these parts cannot be joined.
	for _, texts := range [][]string{
		{":.*", ":a[ab]{12,12}", ":!"}, {";.*", ":a[ab]{12,12}", ";!", ":b"}, {":a{16,16}{2,2}", ":a{16,16}{2,2}", ":!"},
	} {
		p := made(t, texts...)
		if d, err := pattern.Language(p[:2]); err != api.ErrBig || !zero(d) {
			t.Errorf("%q: %v, %v", texts[:2], d, err)
		}
		if d, err := pattern.Language(p); err != api.OK || !automaton.Valid(d) {
			t.Errorf("%q: %v, %v", texts, d, err)
		}
	}
	exact := made(t, ":a{16,16}", ":a{16,16}", ":a{16,16}", ":a{14,14}")
	if d, err := pattern.Language(exact); err != api.OK || len(d.Next) != 64 || !automaton.Accepts(d, []byte(strings.Repeat("a", 62))) {
		t.Errorf("62 bytes: %v, %v", d, err)
	}
}

// P6.1, F3: the language of a single part is its automaton.
func TestLanguageOfPart(t *testing.T) {
	for _, text := range []string{":a*", ";a*", ":!", ":()", ":.*", ":(a{7,7})*&(a{9,9})*", ":a{16,16}{3,3}a{14,14}", `:[\x00\xff]b`} {
		p := made(t, text)
		if d, err := pattern.Language(p); err != api.OK || !same(d, built(t, p[0].R)) {
			t.Errorf("%q: %v, %v", text, d, err)
		}
	}
}
