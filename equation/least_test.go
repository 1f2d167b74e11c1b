package equation_test

import (
	"strings"
	"testing"

	"univocal/api"
	"univocal/equation"
)

// P11.1, K6: least solutions, among them that of the chapter's example.
func TestLeast(t *testing.T) {
	for _, c := range []struct {
		e    string
		s    api.Scope
		ok   bool
		want [][]byte
	}{
		{"XY=aab", inScope("ab", 3), true, words("", "aab")}, {"XY=aab", inScope("ab", 2), true, words("a", "ab")}, {"XY=aab", inScope("ab", 1), false, nil},
		{"YX=aab", inScope("ab", 2), true, words("b", "aa")}, {"aab=XY", inScope("a", 3), false, nil}, {"X=ab", inScope("ab", 1), false, nil},
		{"=", inScope("a", 0), true, nil}, {"ab=ab", inScope("c", 3), true, nil}, {"a=b", inScope("ab", 3), false, nil}, {"a=", inScope("ab", 3), false, nil},
		{"Xa=aX", inScope("ab", 3), true, words("")}, {"bXa=baX", inScope("b", 3), true, words("")}, {"Xa=bX", inScope("ab", 5), false, nil},
		{"Xba=aXb", inScope("ab", 3), false, nil}, {"Xba=abX", inScope("ab", 3), true, words("a")}, {"Xbab=babX", inScope("ab", 2), true, words("")},
		{"bXba=babX", inScope("ab", 2), true, words("a")}, {"XX=YaYa", inScope("ab", 3), true, words("a", "")}, {"XbY=YaZb", inScope("ab", 2), true, words("a", "", "")},
		{"XaX=Y", inScope("ab", 4), true, words("", "a")}, {"XaXY=YYYb", inScope("ab", 3), false, nil}, {"XYX=bbabb", inScope("ab", 3), true, words("b", "bab")},
		{"Z=b", inScope("ab", 2), true, words("", "", "b")}, {"U=Z", inScope("ab", 2), true, words("", "", "", "")}, {"aU=Zb", inScope("ab", 1), true, words("", "", "a", "b")},
		{"F=", inScope("a", 0), true, words("", "", "", "", "", "", "", "", "", "", "", "")},
		{"F=a", inScope("a", 1), true, words("", "", "", "", "", "", "", "", "", "", "", "a")},
		{"EF=aa", inScope("a", 1), true, words("", "", "", "", "", "", "", "", "", "", "a", "a")},
		{"XYZUVWABCDEF=aaaaaaaaaaaa", inScope("a", 1), true, words("a", "a", "a", "a", "a", "a", "a", "a", "a", "a", "a", "a")},
		{"XYZUVWABCDEF=aaaaaaaaaaaaa", inScope("a", 1), false, nil}, {"X\x00=\xffY", inScope("\x00\xff", 2), true, words("\xff", "\x00")},
		{"cX=Yc", inScope("ab", 4), true, words("", "")}, {"cX=Yb", inScope("ab", 4), false, nil}, {"aXb=ccc", inScope("abc", 4), false, nil}, {"X=dddd", inScope("abcd", 5), true, words("dddd")},
	} {
		w, ok, err := equation.Least(eq(c.e), c.s)
		if err != api.OK || ok != c.ok || !sameWords(w, c.want) {
			t.Errorf("%s, %v: %q, %v, %v", c.e, c.s, w, ok, err)
		}
		if w, found, enough := first(eq(c.e), c.s); !enough || found != c.ok || !sameWords(w, c.want) {
			t.Errorf("%s, %v: %q, %v, %v by definition", c.e, c.s, w, found, enough)
		}
	}
}

// P11.1, K6: 4096 assignments are enough, also if variables below the greatest one do not occur; an equation without variables
// has one assignment in every scope.
func TestLeastLimits(t *testing.T) {
	for _, c := range []struct {
		e    string
		s    api.Scope
		want api.Errno
	}{
		{"F=F", inScope("a", 1), api.OK}, {"F=F", inScope("a", 2), api.ErrBig}, {"E=E", inScope("a", 2), api.ErrBig}, {"F=F", inScope("abcd", 0), api.OK},
		{"W=W", inScope("abc", 1), api.OK}, {"A=A", inScope("abc", 1), api.ErrBig}, {"W=W", inScope("abcd", 1), api.ErrBig}, {"W=", inScope("a", 3), api.OK},
		{"U=a", inScope("a", 7), api.OK}, {"V=a", inScope("a", 7), api.ErrBig}, {"U=a", inScope("a", 8), api.ErrBig}, {"Z=a", inScope("ab", 3), api.OK},
		{"Z=a", inScope("abcd", 2), api.ErrBig}, {"=Y", inScope("ab", 5), api.OK}, {"=Y", inScope("abc", 4), api.ErrBig}, {"X=X", inScope("abc", 7), api.OK},
		{"X=X", inScope("abc", 8), api.ErrBig}, {"X=X", inScope("abcd", 5), api.OK}, {"X=X", inScope("abcd", 6), api.ErrBig},
		{"a=a", inScope("abc", 8), api.OK}, {"a=b", inScope("abcd", 6), api.OK}, {"=", inScope("abcd", 8), api.OK}, {"F=a", inScope("abcd", 8), api.ErrBig},
		{"a=bX", inScope("abcd", 8), api.ErrBig}, {"aX=aX", inScope("abc", 8), api.ErrBig},
	} {
		w, ok, err := equation.Least(eq(c.e), c.s)
		if err != c.want || err != api.OK && (ok || len(w) > 0) {
			t.Errorf("%s, %v: %q, %v, %v", c.e, c.s, w, ok, err)
		}
		if want, found, enough := first(eq(c.e), c.s); enough != (c.want == api.OK) || found != ok || !sameWords(w, want) {
			t.Errorf("%s, %v: %q, %v, but %q, %v, %v by definition", c.e, c.s, w, ok, want, found, enough)
		}
	}
}

// scopes are scopes that are not valid.
var scopes = []api.Scope{
	{}, inScope("", 3), inScope("abcde", 1), inScope("aa", 1), inScope("ba", 2), inScope("acb", 0), inScope("a", -1), inScope("a", 9),
	inScope("abcd", 1<<40), inScope(strings.Repeat("a", 300), 2),
}

// P11.1, K6: the equation and the scope have to be valid.
func TestLeastInvalid(t *testing.T) {
	for what, e := range invalid() {
		for _, s := range append(scopes, inScope("ab", 2), inScope("abcd", 8), inScope("a", 0)) {
			if w, ok, err := equation.Least(e, s); len(w) > 0 || ok || err != api.ErrArg {
				t.Errorf("%s, %v: %q, %v, %v", what, s, w, ok, err)
			}
		}
	}
	for _, s := range scopes {
		for _, e := range eqs("=", "X=", "a=b", "F=a", "Xa=aX") {
			if w, ok, err := equation.Least(e, s); len(w) > 0 || ok || err != api.ErrArg {
				t.Errorf("%s, %v: %q, %v, %v", text(e), s, w, ok, err)
			}
		}
	}
}
