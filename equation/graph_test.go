package equation_test

import (
	"slices"
	"strings"
	"testing"

	"univocal/api"
	"univocal/equation"
)

// P11.1, K4: graphs in their order, among them those of the chapter's examples.
func TestGraph(t *testing.T) {
	for _, c := range []struct {
		e    string
		ok   bool
		want []string
	}{
		{"Xa=aX", true, []string{"Xa=aX", "="}}, {"Xa=bX", false, []string{"Xa=bX"}}, {"Ya=bY", false, []string{"Xa=bX"}},
		{"aX=bY", false, nil}, {"a=", false, nil}, {"a=b", false, nil}, {"=XaY", false, nil}, {"XX=XaX", false, nil},
		{"=", true, []string{"="}}, {"FaE=FaE", true, []string{"="}}, {"ab=ab", true, []string{"="}},
		{"XY=", true, []string{"XY=", "X=", "="}}, {"=FEF", true, []string{"=XYX", "=X", "="}},
		{"Y=X", true, []string{"X=Y", "=X", "X=", "="}}, {"X=ab", true, []string{"X=ab", "X=b", "X=", "="}},
		{"bX=Ya", true, []string{"bX=Ya", "X=Ya", "X=a", "X=", "="}}, {"abXc=abYc", true, []string{"X=Y", "=X", "X=", "="}},
		{"XXa=Xba", true, []string{"X=b", "X=", "="}}, {"Xba=Xa", false, nil}, {"aXb=Xba", false, nil}, {"aaX=Xba", false, []string{"aaX=Xba"}},
		{"Xab=baX", true, []string{"Xab=baX", "Xab=abX", "="}}, {"Xaa=abX", false, []string{"Xaa=abX", "Xaa=baX"}},
		{"cXabbX=cXaabX", false, nil}, {"Fabb=aabF", false, []string{"Xabb=aabX", "Xabb=abaX", "Xabb=baaX"}},
	} {
		g, ok, err := equation.Graph(eq(c.e))
		if l := texts(g); !slices.Equal(l, c.want) || ok != c.ok || err != api.OK {
			t.Errorf("%s: %q, %v, %v", c.e, l, ok, err)
		}
		if g, enough := closed(eq(c.e)); !slices.Equal(texts(g), c.want) || !enough {
			t.Errorf("%s: %q, %v by definition", c.e, texts(g), enough)
		}
	}
	for what, e := range invalid() {
		if g, ok, err := equation.Graph(e); len(g) > 0 || ok || err != api.ErrArg {
			t.Errorf("%s: %q, %v, %v", what, texts(g), ok, err)
		}
	}
}

// limits are equations whose graphs have about as many elements as possible, or elements that are as long as possible: the
// number of elements, the greatest number of items on the left and on the right, and whether there is a solved element.
var limits = []struct {
	e                 string
	size, left, right int
	ok                bool
}{
	{"YXYaV=aXBVaB", 256, 10, 10, false}, {"AYWa=aVVAbY", 256, 4, 9, true}, {"UaaaaVa=XXaaXX", 183, 7, 24, true},
	{"CCCaaC=aAVaaaa", 113, 24, 7, true}, {"bbbaaab=XbXbXX", 7, 7, 24, false}, {"VaVbVV=abbbbbb", 7, 24, 7, false},
}

// P11.1, K4: graphs of 256 elements and equations of 24 items are not too large.
func TestGraphLimits(t *testing.T) {
	for _, c := range limits {
		for _, text := range []string{c.e, strings.NewReplacer("X", "Y", "Y", "X").Replace(c.e)} {
			e := eq(text)
			g, ok, err := equation.Graph(e)
			left, right := 0, 0
			for _, x := range g {
				left, right = max(left, len(x.L)), max(right, len(x.R))
			}
			if err != api.OK || ok != c.ok || len(g) != c.size || left != c.left || right != c.right {
				t.Errorf("%s: %d elements with %d and %d items, %v, %v", text, len(g), left, right, ok, err)
			}
			if want, _ := closed(e); !sameAll(g, want) {
				t.Errorf("%s: %q, but %q by definition", text, texts(g), texts(want))
			}
			if shows := equation.Check(e, g); shows == c.ok {
				t.Errorf("%s: Check returns %v", text, shows)
			}
		}
	}
}

// P11.1, K4: graphs of 257 elements, graphs with equations of 25 items and graphs without an end are too large.
func TestGraphTooLarge(t *testing.T) {
	for _, c := range []string{
		"YaUUaV=aZZYVb", "baYVbZa=XZaabbY", "YVabaZa=UUVY", "babYaab=XaXYXaX", "XabXXbX=baabbbb", "aaWZab=ZWZZW", "YZZaaa=ZYEa",
		"XX=aXb", strings.Repeat("X", 24) + "=aY", "Ya=" + strings.Repeat("X", 24), strings.Repeat("Xb", 12) + "=YXZ",
	} {
		if g, ok, err := equation.Graph(eq(c)); len(g) > 0 || ok || err != api.ErrBig {
			t.Errorf("%s: %d elements, %v, %v", c, len(g), ok, err)
		}
		if _, enough := closed(eq(c)); enough {
			t.Errorf("%s is not too large by definition", c)
		}
	}
}

// checked fails unless Check, and the definition, give want.
func checked(t *testing.T, what string, e api.Equation, g []api.Equation, want bool) {
	t.Helper()
	if ok := equation.Check(e, g); ok != want {
		t.Errorf("%s: Check(%s, %q) is %v", what, text(e), texts(g), ok)
	}
	if ok := shown(e, g); ok != want {
		t.Errorf("%s: Check(%s, %q) is %v by definition", what, text(e), texts(g), ok)
	}
}

// P11.1, K5: what a list has to contain, and what it may not contain.
func TestCheck(t *testing.T) {
	const bX, other = "Xa=bX", "Xb=aX"
	for _, c := range []struct {
		e    string
		g    []string
		want bool
	}{
		{bX, []string{bX}, true}, {"Fa=bF", []string{bX}, true}, {"cXaX=cbXX", []string{bX}, true},
		{bX, nil, false}, {bX, []string{other}, false}, {bX, []string{bX, bX}, true}, {bX, []string{other, bX, other}, true},
		{bX, []string{bX, "="}, false}, {bX, []string{"=", bX}, false}, {"Ya=bY", []string{"Ya=bY"}, false}, {bX, []string{bX, "Ya=bY"}, false},
		{bX, []string{bX, "YXa=YbX"}, false}, {bX, []string{bX, "Xac=bXc"}, false}, {bX, []string{bX, "XYa=XbY"}, false}, {bX, []string{bX, "a=b"}, false},
		{bX, []string{bX, "a="}, false}, {bX, []string{bX, "=Xa"}, false}, {bX, []string{bX, "X=X"}, false}, {bX, []string{bX, "aX=bY"}, false},
		{bX, []string{bX, "X="}, false}, {bX, []string{bX, "Xaa=abX"}, false}, {bX, []string{"Xaa=abX", bX, "Xaa=baX"}, true}, {bX, []string{"bX=Xa"}, false},
		{"Xaa=abX", []string{"Xaa=abX", "Xaa=baX"}, true}, {"Xaa=abX", []string{"Xaa=baX", "Xaa=abX"}, true},
		{"Xaa=abX", []string{"Xaa=abX"}, false}, {"Xaa=abX", []string{"Xaa=baX"}, false},
		{"a=b", nil, true}, {"a=b", []string{bX}, true}, {"a=b", []string{"="}, false}, {"a=b", []string{"Xaa=abX"}, false}, {"a=b", []string{"a=b"}, false},
		{"aX=bX", nil, true}, {"XXa=Xbb", nil, true}, {"XXa=Xba", nil, false}, {"=aX", nil, true}, {"aX=aX", nil, false}, {"=", nil, false}, {"=", []string{"="}, false}, {"=", []string{bX}, false},
		{"Xa=aX", []string{"Xa=aX"}, false}, {"Xa=aX", []string{"Xa=aX", "="}, false}, {"XY=", []string{"XY=", "X="}, false}, {"XY=", []string{"XY="}, false},
	} {
		checked(t, "by hand", eq(c.e), eqs(c.g...), c.want)
	}
	for what, e := range invalid() {
		checked(t, what, e, nil, false)
		checked(t, what, e, eqs(bX), false)
		checked(t, what+" alone", eq("a=b"), []api.Equation{e}, false)
		checked(t, what+" listed", eq(bX), []api.Equation{eq(bX), e}, false)
		checked(t, what+" listed first", eq(bX), []api.Equation{e, eq(bX)}, false)
	}
}

// P11.1, K5: an element whose steps have more than MaxItems items cannot be in a list.
func TestCheckLong(t *testing.T) {
	long := eq(strings.Repeat("X", 24) + "=aYb")
	var g []api.Equation
	for _, s := range append(equation.Steps(long), api.Step{E: long}) {
		if equation.Valid(s.E) && !isSolved(s.E) {
			g = append(g, equation.Canon(s.E))
		}
	}
	checked(t, "long", long, g, false)
	for _, s := range equation.Steps(long) {
		g = append(g, equation.Canon(s.E), renumbered(s.E))
	}
	checked(t, "long", long, g, false)
	checked(t, "long", eq("a=b"), g, false)
}

// P11.1, K5: lists of any length are checked.
func TestCheckMany(t *testing.T) {
	g := eqs("Xaa=abX", "Xaa=baX")
	many := append(slices.Repeat(g[1:], 60000), slices.Repeat(g[:1], 60000)...)
	if !equation.Check(g[0], many) || !equation.Check(eq("a=b"), many) {
		t.Errorf("a list with repetitions is not accepted")
	}
	if equation.Check(g[0], append(many, eq("="))) || equation.Check(eq("Xa=bX"), many) {
		t.Errorf("a wrong list with repetitions is accepted")
	}
}
