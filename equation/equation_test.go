package equation_test

import (
	"bytes"
	"slices"
	"strings"
	"testing"

	"univocal/api"
	"univocal/equation"
)

// P11.1, K1: sides of up to 24 items, variables up to 11, which have no byte.
func TestValid(t *testing.T) {
	long := strings.Repeat("XaF", 8)
	for _, e := range append(eqs("=", "X=", "=a", "a=b", "F=XYZUVWABCDE", long+"=", "="+long, long+"="+long),
		api.Equation{L: []api.Item{letter(0), letter(255)}, R: []api.Item{variable(0), variable(11)}}) {
		if !equation.Valid(e) || !valid(e) {
			t.Errorf("%s is not valid", text(e))
		}
	}
	for what, e := range invalid() {
		if equation.Valid(e) || valid(e) {
			t.Errorf("%s is valid: %s", what, text(e))
		}
	}
}

// P11.1, K1: an assignment is a solution if both sides have the same word.
func TestHolds(t *testing.T) {
	for _, c := range []struct {
		e    string
		w    [][]byte
		want bool
	}{
		{"=", nil, true}, {"=", words("a", "b"), true}, {"a=a", nil, true}, {"a=b", nil, false}, {"a=", nil, false}, {"=a", nil, false},
		{"ab=ba", nil, false}, {"aab=aab", words("b"), true}, {"a=ab", nil, false}, {"ab=a", nil, false},
		{"Xa=aX", words(""), true}, {"Xa=aX", words("aaa"), true}, {"Xa=aX", words("ab"), false}, {"Xa=aX", words("b"), false},
		{"Xa=aX", nil, false}, {"Xa=aX", words("a", "b", "c"), true},
		{"X=X", nil, false}, {"X=X", words("b"), true}, {"Y=Y", words("b"), false}, {"Y=Y", words("b", ""), true}, {"Y=Y", [][]byte{nil, nil}, true},
		{"Y=ab", words("a", "ab"), true}, {"Y=ab", words("ab", "a"), false}, {"Y=ab", words("ab", "abb"), false},
		{"XY=aab", words("aa", "b"), true}, {"XY=aab", words("", "aab"), true}, {"XY=aab", words("aab", ""), true}, {"XY=aab", words("a", "aab"), false},
		{"XY=YX", words("abab", "ababab"), true}, {"XY=YX", words("aba", "ab"), false},
		{"XXaYY=YaXXa", words("", "a"), true}, {"XXaYY=YaXXa", words("a", ""), false}, {"XX=YYY", words("aaa", "aa"), true}, {"XX=YYY", words("aaaa", "aa"), false},
		{"F=E", words("", "", "", "", "", "", "", "", "", "", "a", "a"), true}, {"F=E", words("", "", "", "", "", "", "", "", "", "", "a"), false},
		{"F=E", words("", "", "", "", "", "", "", "", "", "", "a", "b"), false}, {"X=\x00", words("\x00"), true}, {"X=\xff", words("\x00"), false},
		{"XaYbZ=YbXaZ", words("b", "a", "ab"), false}, {"XaYbZ=ZaXbY", words("ab", "ab", "ab"), true},
	} {
		if ok := equation.Holds(eq(c.e), c.w); ok != c.want {
			t.Errorf("%s at %q: %v", c.e, c.w, ok)
		}
		if ok := solves(eq(c.e), c.w); ok != c.want {
			t.Errorf("%s at %q: %v by definition", c.e, c.w, ok)
		}
	}
	for what, e := range invalid() {
		for _, w := range [][][]byte{nil, words("", ""), slices.Repeat(words(""), 14), slices.Repeat(words("a"), 300)} {
			if equation.Holds(e, w) {
				t.Errorf("%s: %s holds at %q", what, text(e), w)
			}
		}
	}
}

// P11.1, K1: the words of a solution are as long as they like.
func TestHoldsLong(t *testing.T) {
	x, y := bytes.Repeat([]byte("ab"), 500000), bytes.Repeat([]byte("ab"), 750000)
	e := eq(strings.Repeat("X", 24) + "=" + strings.Repeat("Y", 16))
	if !equation.Holds(e, [][]byte{x, y}) {
		t.Errorf("both words are equal")
	}
	if equation.Holds(e, [][]byte{x, y[1:]}) || equation.Holds(e, [][]byte{x[:len(x)-1], y}) {
		t.Errorf("the words have other lengths")
	}
	y[len(y)-1] = 'c'
	if equation.Holds(e, [][]byte{x, y}) {
		t.Errorf("the last bytes differ")
	}
}

// P11.1, K2: what stripping removes, and when it fails.
func TestStrip(t *testing.T) {
	for _, c := range []struct{ e, want string }{
		{"=", "="}, {"a=a", "="}, {"X=X", "="}, {"XaY=XaY", "="}, {"X=", "X="}, {"=YX", "=YX"}, {"X=Y", "X=Y"}, {"F=a", "F=a"}, {"a=F", "a=F"},
		{"Xa=aX", "Xa=aX"}, {"Xa=a", "X="}, {"a=Xa", "=X"}, {"aX=a", "X="}, {"abXc=abYc", "X=Y"}, {"abXbc=abYbc", "X=Y"}, {"XaY=XbY", "fails"},
		{"aX=bY", "fails"}, {"Xa=Yb", "fails"}, {"a=b", "fails"}, {"a=", "fails"}, {"=b", "fails"}, {"Xa=", "fails"}, {"=aX", "fails"}, {"=XaY", "fails"},
		{"XaX=X", "fails"}, {"X=XYaY", "fails"}, {"XYX=X", "YX="}, {"X=XX", "=X"}, {"XX=XXX", "=X"}, {"Xab=Xcb", "fails"}, {"aXb=aYc", "fails"},
		{"aXb=aYZ", "Xb=YZ"}, {"Xa=bY", "Xa=bY"}, {"Xab=cYab", "X=cY"}, {"aa=aaa", "fails"}, {"aXa=a", "fails"}, {"aXa=aa", "X="}, {"aXa=aYXa", "=Y"},
		{"aXa=aXaXa", "fails"}, {"X\x00=Y\x00", "X=Y"}, {"X\x00=Y\xff", "fails"}, {"aX=Ya", "aX=Ya"}, {"baX=baYa", "X=Ya"}, {"Xb=aY", "Xb=aY"},
		{strings.Repeat("aX", 12) + "=" + strings.Repeat("aX", 11), "fails"}, {strings.Repeat("X", 24) + "=" + strings.Repeat("X", 23), "X="},
	} {
		s, ok := equation.Strip(eq(c.e))
		if ok != (c.want != "fails") || ok && text(s) != c.want || !ok && !isSolved(s) {
			t.Errorf("%s: %s, %v", c.e, text(s), ok)
		}
		if s, ok := stripped(eq(c.e)); ok != (c.want != "fails") || ok && text(s) != c.want {
			t.Errorf("%s: %s, %v by definition", c.e, text(s), ok)
		}
	}
	for what, e := range invalid() {
		if s, ok := equation.Strip(e); ok || !isSolved(s) {
			t.Errorf("%s: %s is stripped to %s, %v", what, text(e), text(s), ok)
		}
	}
}

// P11.1, K2: variables are renumbered in the order of their first occurrences; nothing is stripped.
func TestCanon(t *testing.T) {
	for _, c := range []struct{ e, want string }{
		{"=", "="}, {"ab=b", "ab=b"}, {"X=X", "X=X"}, {"Y=X", "X=Y"}, {"Y=Y", "X=X"}, {"=F", "=X"}, {"FaEF=XEbX", "XaYX=ZYbZ"}, {"a=YX", "a=XY"},
		{"FEDCBAWVUZYX=XF", "XYZUVWABCDEF=FX"}, {"XYZUVWABCDEF=", "XYZUVWABCDEF="}, {"YX=aXY", "XY=aYX"}, {"aY=bY", "aX=bX"},
		{"\x00\xff=\x01Y", "\x00\xff=\x01X"}, {strings.Repeat("FE", 12) + "=" + strings.Repeat("D", 24), strings.Repeat("XY", 12) + "=" + strings.Repeat("Z", 24)},
	} {
		if s := text(equation.Canon(eq(c.e))); s != c.want {
			t.Errorf("%s: %s", c.e, s)
		}
		if s := text(renumbered(eq(c.e))); s != c.want {
			t.Errorf("%s: %s by definition", c.e, s)
		}
	}
	for what, e := range invalid() {
		if c := equation.Canon(e); !isSolved(c) {
			t.Errorf("%s: %s", what, text(c))
		}
	}
}

// P11.1, K3: the steps of the chapter's table and others, in their order.
func TestSteps(t *testing.T) {
	for _, c := range []struct {
		e    string
		want []string
	}{
		{"Xa=aX", []string{"X : =", "X aX: Xa=aX"}},
		{"Xa=bY", []string{"X bX: Xa=Y"}},
		{"aX=bY", nil}, {"XY=", []string{"X : Y="}}, {"=XYX", []string{"X : =Y"}}, {"=", nil}, {"XaY=XaY", nil}, {"a=", nil},
		{"=YX", []string{"Y : =X"}}, {"YXX=", []string{"Y : XX="}}, {"X=", []string{"X : ="}}, {"=F", []string{"F : ="}},
		{"aX=Xa", []string{"X : =", "X aX: aX=Xa"}}, {"bY=Xa", []string{"X bX: Y=Xa"}},
		{"aY=X", []string{"X aX: Y=X"}}, {"X=ab", []string{"X aX: X=b"}}, {"X=a", []string{"X aX: X="}}, {"a=X", []string{"X aX: =X"}},
		{"X=Y", []string{"X : =Y", "Y : X=", "X YX: X=", "Y XY: =Y"}}, {"Y=X", []string{"Y : =X", "X : Y=", "Y XY: Y=", "X YX: =X"}},
		{"XYa=YbX", []string{"Y : Xa=bX", "X YX: XYa=bYX", "Y XY: XYa=YbX"}},
		{"XX=YYY", []string{"X : =YYY", "Y : XX=", "X YX: XYX=YY", "Y XY: X=YXYXY"}},
		{"FaE=EaF", []string{"F : aE=Ea", "E : Fa=aF", "F EF: FaE=aEF", "E FE: aFE=EaF"}},
		{"aXbYa=aYbXa", []string{"X : bY=Yb", "Y : Xb=bX", "X YX: XbY=bYX", "Y XY: bXY=YbX"}},
		{"X\x00=\xffX", []string{"X \xffX: X\x00=\xffX"}}, {"Xa=bX", []string{"X bX: Xa=bX"}},
		{"X=YX", []string{"Y : ="}}, {"XYX=X", []string{"Y : X="}},
		{strings.Repeat("X", 24) + "=aY", []string{"X aX: " + strings.Repeat("Xa", 23) + "X=Y"}},
		{
			strings.Repeat("Xb", 12) + "=YXZ",
			[]string{
				"X : " + strings.Repeat("b", 12) + "=YZ", "Y : b" + strings.Repeat("Xb", 11) + "=Z",
				"X YX: Xb" + strings.Repeat("YXb", 11) + "=YXZ", "Y XY: b" + strings.Repeat("Xb", 11) + "=YXZ",
			},
		},
	} {
		if l := stepTexts(equation.Steps(eq(c.e))); !slices.Equal(l, c.want) {
			t.Errorf("%s: %q", c.e, l)
		}
		if l, want := equation.Steps(eq(c.e)), arranged(eq(c.e)); !sameSteps(l, want) {
			t.Errorf("%s: %q, but %q by definition", c.e, stepTexts(l), stepTexts(want))
		}
	}
	for what, e := range invalid() {
		if l := equation.Steps(e); len(l) > 0 {
			t.Errorf("%s: %q", what, stepTexts(l))
		}
	}
}
