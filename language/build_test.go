package language_test

import (
	"slices"
	"strings"
	"testing"

	"univocal/api"
	"univocal/automaton"
	"univocal/language"
	"univocal/regex"
)

// expression returns the text of an expression with about n nodes, whose repetitions have the given bounds.
func (s *numbers) expression(n int, bounds []string) string {
	if n <= 1 {
		return []string{"a", "b", "a", "b", "c", ".", "!", "()", "[ab]", "[^a]", "[]", `\x00`, `\xff`}[s.next(13)]
	}
	left := 1 + s.next(n-1)
	one := func() string { return "(" + s.expression(n-1, bounds) + ")" }
	two := func(between string) string {
		return "(" + s.expression(left, bounds) + ")" + between + "(" + s.expression(n-left, bounds) + ")"
	}
	switch s.next(8) {
	case 0, 1, 2:
		return two("")
	case 3, 4:
		return two("|")
	case 5:
		return two("&")
	case 6:
		return "~" + one()
	}
	return one() + bounds[s.next(len(bounds))]
}

var few = []string{"*", "+", "?", "{0,0}", "{1,1}", "{2,2}", "{0,2}", "{1,3}", "{2,}"}

var many = []string{"*", "+", "{0,16}", "{2,9}", "{7,7}", "{16,16}", "{5,}", "{0,0}", "{1,2}"}

// P4.1, P4.2: the automaton of an expression is canonical and accepts exactly the words that match.
func TestBuildMeaning(t *testing.T) {
	s := sequence()
	l := append(words("ab", 5), words("abc\x00\xff", 3)...)
	for i := range 300 {
		text := s.expression(1+i%12, few)
		x := parsed(t, text)
		d, err := language.Build(x)
		if err == api.ErrBig {
			continue
		}
		if valid(t, text, d, err); !same(d, canon(t, d)) {
			t.Fatalf("%q: %v is not canonical", text, d)
		}
		for _, w := range l {
			if automaton.Accepts(d, []byte(w)) != regex.Match(x, []byte(w)) {
				t.Fatalf("%q: %q is wrong", text, w)
			}
		}
	}
}

// node returns the automaton of a node as the table of the chapter says, or the error of one of its operations.
func node(n api.RegexNode, l, r api.DFA) (api.DFA, api.Errno) {
	none := api.DFA{Classes: []api.Class{allBytes}, Next: [][]int{{0}}, Accept: []bool{false}}
	empty, _ := automaton.Word(nil)
	switch n.Kind {
	case api.RxNone:
		return none, api.OK
	case api.RxEmpty:
		return empty, api.OK
	case api.RxClass:
		d := none
		for b := range 256 {
			if has(n.C, b) {
				w, _ := automaton.Word([]byte{byte(b)})
				d, _ = automaton.Or(d, w)
			}
		}
		return d, api.OK
	case api.RxConcat:
		return automaton.Concat(l, r)
	case api.RxAlt:
		return automaton.Or(l, r)
	case api.RxAnd:
		return automaton.And(l, r)
	case api.RxNot:
		return automaton.Not(l)
	}
	p, err := empty, api.OK
	concat := func(d api.DFA) {
		if err == api.OK {
			p, err = automaton.Concat(p, d)
		}
	}
	for range n.Min {
		concat(l)
	}
	if n.Max == -1 {
		star, e := automaton.Star(l)
		err = max(err, e)
		concat(star)
	} else if n.Max > n.Min {
		optional, e := automaton.Or(l, empty)
		err = max(err, e)
		for range n.Max - n.Min {
			concat(optional)
		}
	}
	return p, err
}

// reference returns the automaton of an expression as the chapter says.
func reference(x api.Regex) (api.DFA, api.Errno) {
	var l []api.DFA
	for _, n := range x {
		d, err := node(n, append(l, api.DFA{})[n.L], append(l, api.DFA{})[n.R])
		if err != api.OK {
			return api.DFA{}, err
		}
		l = append(l, d)
	}
	return l[len(l)-1], api.OK
}

// P4.1, D1: the automaton of an expression is that of its root, or ErrBig if a node has none.
func TestBuildNodes(t *testing.T) {
	s := sequence()
	big := 0
	for i := range 400 {
		text := s.expression(4+i%12, many)
		x := parsed(t, text)
		want, fails := reference(x)
		d, err := language.Build(x)
		if err != fails || fails == api.OK && !same(d, want) || fails != api.OK && !zero(d) {
			t.Fatalf("%q: %v, %v, want %v, %v", text, d, err, want, fails)
		}
		if fails == api.ErrBig {
			big++
		}
	}
	if big < 10 || big > 200 {
		t.Errorf("%d expressions are too big", big)
	}
}

// P4.1, D1: the automata of single nodes, among them all the edge cases of a class.
func TestBuildLeaves(t *testing.T) {
	none := api.DFA{Classes: []api.Class{allBytes}, Next: [][]int{{0}}, Accept: []bool{false}}
	empty := api.DFA{Classes: []api.Class{allBytes}, Next: [][]int{{1}, {1}}, Accept: []bool{true, false}}
	for _, c := range []struct {
		text string
		want api.DFA
	}{
		{"!", none},
		{"[]", none},
		{"()", empty},
		{".", api.DFA{Classes: []api.Class{allBytes}, Next: [][]int{{1}, {2}, {2}}, Accept: []bool{false, true, false}}},
		{"b", api.DFA{
			Classes: []api.Class{besides("b"), classOf("b")},
			Next:    [][]int{{1, 2}, {1, 1}, {1, 1}},
			Accept:  []bool{false, false, true},
		}},
		{`[\x00z]`, api.DFA{
			Classes: []api.Class{classOf("\x00z"), besides("\x00z")},
			Next:    [][]int{{1, 2}, {2, 2}, {2, 2}},
			Accept:  []bool{false, true, false},
		}},
		{"~!", api.DFA{Classes: []api.Class{allBytes}, Next: [][]int{{0}}, Accept: []bool{true}}},
	} {
		if d := built(t, c.text); !same(d, c.want) {
			t.Errorf("%q: got %v, want %v", c.text, d, c.want)
		}
	}
	for b := range 256 {
		d, err := language.Build(api.Regex{{Kind: api.RxClass, C: classOf(string([]byte{byte(b)}))}})
		want, _ := automaton.Word([]byte{byte(b)})
		if err != api.OK || !same(d, want) {
			t.Fatalf("byte %d: %v, %v", b, d, err)
		}
	}
}

// P4.1, D1: the chapter's first example.
func TestBuildExample(t *testing.T) {
	d := built(t, "a(b|c)*")
	want := api.DFA{
		Classes: []api.Class{besides("abc"), classOf("a"), classOf("bc")},
		Next:    [][]int{{1, 2, 1}, {1, 1, 1}, {1, 1, 2}},
		Accept:  []bool{false, false, true},
	}
	if !same(d, want) {
		t.Errorf("a(b|c)*: got %v, want %v", d, want)
	}
	for _, w := range []string{"a", "ab", "acb"} {
		if !automaton.Accepts(d, []byte(w)) {
			t.Errorf("%q is not accepted", w)
		}
	}
	x, err := language.Build(parsed(t, "a{16,16}{5,5}"))
	tooBig(t, "80 times a", x, err)
}

// Words of n times a where n leaves the remainder 62 when it is divided by 63: 63 states in a circle and a dead one. With the
// empty word there is one state more, because the start is in the circle.
const circle = "(a{6,6}(a{7,7})*&a{8,8}(a{9,9})*)"

// All words: those of even length and those of one byte come in the first or in the second place. Without the first place
// the words of 13 bytes that begin with a require a set for each way in which a occurs among the last 13 bytes.
const wide = "((..)*|.|a[ab]{12,12})"

// All words of at least 2 bytes. The words that are optional come behind the two that are not: in the opposite order there
// would be more sets than a subset construction may have.
const twice = "(.|a[ab]{8,8}){2,}"

// P4.1, D1: which operations are carried out, and in which order, shows in whether one of them is too big.
func TestBuildLimits(t *testing.T) {
	for _, text := range []string{
		// As many states as an automaton may have.
		"a{16,16}{3,3}a{14,14}", circle, circle + "{1,1}", "(" + circle + "){0,0}",
		wide + "{2,2}", wide + "{1,2}", ".{16,16}{3,3}(.{15,15}.*)",
		"(.{16,16}{3,3}.{14,14}){1,1}", wide + ".*", twice,
	} {
		if d := built(t, text); len(d.Next) > api.MaxStates {
			t.Errorf("%q: %d states", text, len(d.Next))
		}
	}
	if n := len(built(t, circle).Next); n != 64 {
		t.Fatalf("%d states in the circle", n)
	}
	if d := built(t, wide+"{2,2}"); len(d.Next) != 1 {
		t.Fatalf("%v does not accept all words", d)
	}
	for _, text := range []string{
		"a{16,16}{3,3}a{15,15}", circle + "|()", circle + "?", circle + "{0,2}", circle + "*",
		// The third word is read behind all words, the first one behind none.
		wide + "{3,3}", wide + "{2,3}", wide + "{2,}", ".*" + wide, ".*" + wide + "{1,1}",
		".*(a[ab]{12,12}|())", "(a[ab]{12,12}|[ab])*",
		// The node is too big, whatever the nodes above it say.
		"!&a{16,16}{5,5}", "a{16,16}{5,5}&!", ".*|a{16,16}{5,5}", "a{16,16}{5,5}!", "!(a{16,16}{5,5})",
		"(a{16,16}{5,5}){0,0}", "(a{16,16}{5,5})*&()", "~(~(a{16,16}{5,5}))", "(a{16,16}{5,5}|.*)*",
	} {
		d, err := language.Build(parsed(t, text))
		tooBig(t, text, d, err)
	}
	if d := built(t, twice); !same(d, built(t, "...*")) {
		t.Errorf("words of at least 2 bytes: %v", d)
	}
}

// P4.1, D1: the error of regex.Valid comes first.
func TestBuildErrors(t *testing.T) {
	long := make(api.Regex, 201)
	for i := range long {
		long[i] = api.RegexNode{Kind: api.RxNot, L: i - 1}
	}
	long[0] = api.RegexNode{Kind: api.RxEmpty}
	huge := parsed(t, "a{16,16}{5,5}")
	for what, c := range map[string]struct {
		x    api.Regex
		want api.Errno
	}{
		"no node":             {nil, api.ErrArg},
		"kind 0":              {api.Regex{{}}, api.ErrArg},
		"kind 9":              {api.Regex{{Kind: 9}}, api.ErrArg},
		"an unused field":     {api.Regex{{Kind: api.RxEmpty, L: 1}}, api.ErrArg},
		"its own operand":     {api.Regex{{Kind: api.RxNot}}, api.ErrArg},
		"a negative operand":  {api.Regex{{Kind: api.RxEmpty}, {Kind: api.RxNot, L: -1}}, api.ErrArg},
		"two roots":           {api.Regex{{Kind: api.RxEmpty}, {Kind: api.RxEmpty}}, api.ErrArg},
		"an operand twice":    {api.Regex{{Kind: api.RxEmpty}, {Kind: api.RxConcat}}, api.ErrArg},
		"17 times":            {api.Regex{{Kind: api.RxEmpty}, {Kind: api.RxRepeat, Min: 17, Max: 17}}, api.ErrBig},
		"3 to 2 times":        {api.Regex{{Kind: api.RxEmpty}, {Kind: api.RxRepeat, Min: 3, Max: 2}}, api.ErrArg},
		"201 nodes":           {long, api.ErrBig},
		"too big, then wrong": {append(slices.Clone(huge), api.RegexNode{Kind: 9}), api.ErrArg},
	} {
		if d, err := language.Build(c.x); err != c.want || !zero(d) {
			t.Errorf("%s: %v, %v, want %v", what, d, err, c.want)
		}
	}
	if d, err := language.Build(long[:200]); err != api.OK || len(d.Next) != 2 {
		t.Errorf("200 nodes: %v, %v", d, err)
	}
}

// P4.1, D1: the nodes may be in any order in which operands come first.
func TestBuildOrder(t *testing.T) {
	byteOf := func(s string) api.RegexNode { return api.RegexNode{Kind: api.RxClass, C: classOf(s)} }
	x := api.Regex{byteOf("c"), byteOf("b"), byteOf("a"), {Kind: api.RxAlt, L: 1, R: 0}, {Kind: api.RxRepeat, L: 3, Max: -1}, {Kind: api.RxConcat, L: 2, R: 4}}
	if d, err := language.Build(x); err != api.OK || !same(d, built(t, "a(b|c)*")) {
		t.Errorf("%v, %v", d, err)
	}
}

// P4.3: expressions with the same language have the same automaton.
func TestCanonicity(t *testing.T) {
	for _, l := range [][]string{
		{"!", "[]", "a&b", "~(.*)", "!a", "a!", "!+", "a&aa", "![a]*"},
		{"()", "!*", "a{0,0}", "()()", "()*", "a?&b?", "~(.+)", "[]{0,3}"},
		{".*", "~!", "(.|..)*", "~()|()", "[^a]*(a[^a]*)*", ".?.*", "[\\x00-\\xff]{0,}"},
		{"a+", "aa*", "a*a", "a{1,}", "a|aa+", "a*&~()", "(a|aa)+"},
		{"(a|b)*", "(a*b*)*", "[ab]*", "(a*b)*a*", "~(.*[^ab].*)", "()|(a|b)+"},
		{"a{2,4}", "aaa?a?", "aa|aaa|aaaa", "a{0,4}&~(a?)", "(a|aa){2,2}"},
		{"~(a|b)", "~a&~b", "()|[^ab]|..+"},
		{"a|b", "b|a", "[ab]", "[a-b]", "a|b|a", "(a|c)&(a|b)|b", "(a?|b)&."},
		{"a(b|c)", "ab|ac", "a[bc]", "a.&.[b-c]"},
		{"(ab)*a", "a(ba)*"},
		{"a{3,16}", "a{3,3}a{0,13}", "a{0,13}a{3,3}", "a{3,}&~(aa{16,})"},
	} {
		d := built(t, l[0])
		for _, text := range l[1:] {
			if e := built(t, text); !same(d, e) {
				t.Errorf("%q: %v, but %q: %v", l[0], d, text, e)
			}
		}
	}
	s := sequence()
	for range 100 {
		x, y := s.expression(4, few), s.expression(4, few)
		pairs := [][2]string{
			{"(X)|(Y)", "(Y)|(X)"}, {"~((X)|(Y))", "~(X)&~(Y)"}, {"(X)+", "(X)(X)*"}, {"(X)*(X)", "(X)(X)*"}, {"((X)*)*", "(X)*"},
			{"(X)((X)|(Y))", "(X)(X)|(X)(Y)"}, {"(X)?(Y)", "(Y)|(X)(Y)"}, {"(X){1,3}", "(X)(X)?(X)?"}, {"~~(X)", "X"},
		}
		p := pairs[s.next(len(pairs))]
		r := strings.NewReplacer("X", x, "Y", y)
		d, err := language.Build(parsed(t, r.Replace(p[0])))
		e, fails := language.Build(parsed(t, r.Replace(p[1])))
		if err == api.OK && fails == api.OK && !same(d, e) {
			t.Fatalf("%q and %q with X = %q and Y = %q: %v and %v", p[0], p[1], x, y, d, e)
		}
	}
}

// P4.3: expressions with different languages have different automata.
func TestDifferentLanguages(t *testing.T) {
	l := []string{"!", "()", ".*", "a", "b", "a*", "a+", "aa", "[ab]", "ab", "ba", "a|ab", "~a", ".", "[^a]", "(ab)*", "a*b*"}
	for i, x := range l {
		for _, y := range l[:i] {
			if same(built(t, x), built(t, y)) {
				t.Errorf("%q and %q have the same automaton", x, y)
			}
		}
	}
}
