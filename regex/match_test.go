package regex_test

import (
	"bytes"
	"slices"
	"strings"
	"testing"

	"univocal/api"
	"univocal/regex"
)

// matches is a text, with words that match and words that do not; "-" stands for the empty word.
type matches struct{ s, yes, no string }

// examples are matches of texts of all kinds.
var examples = []matches{
	{"!", "", "- a"},
	{"()", "-", "a"},
	{"[]", "", "- a"},
	{"a", "a", "- b aa"},
	{".", "a \x00 \xff", "- ab"},
	{"[a-c]", "a b c", "- d `"},
	{"ab", "ab", "- a b ba abb"},
	{"a|bc", "a bc", "- b c abc"},
	{"a(b|c)*", "a ab abcb acccb", "- ba aba"},
	{"~a*&.{2,2}", "ab ba bb", "aa a - bbb"},
	{`[a-c\x2d]+`, "b-a - a", ""},
	{"~a", "- b aa ab", "a"},
	{"~()", "a ab", "-"},
	{"~!", "- a", ""},
	{"~~a", "a", "- b"},
	{".*&~a", "- b aa", "a"},
	{"a*&(aa)*", "- aa aaaa", "a aaa"},
	{"(aa)*&(aaa)*", "- aaaaaa", "a aa aaa aaaa"},
	{"a{0,0}", "-", "a"},
	{"!{0,0}", "-", "a"},
	{"!*", "-", "a"},
	{"!+", "", "- a"},
	{"a{2,3}", "aa aaa", "- a aaaa"},
	{"a{2,}", "aa aaa aaaaaaaaaaaaaaaaaaaaaaaa", "- a"},
	{"a{16,16}", "aaaaaaaaaaaaaaaa", "aaaaaaaaaaaaaaa aaaaaaaaaaaaaaaaa"},
	{"(ab?){2,2}", "aa aba aab abab", "a ab abb ababa"},
	{"(a|aa){2,2}", "aa aaa aaaa", "- a aaaaa"},
	{"(a?){3,3}", "- a aa aaa", "aaaa"},
	{"(a?){3,}", "- a aaaaa", "b"},
	{"()*", "-", "a"},
	{"(a*)*", "- a aaa", "b"},
	{"(a*b)*", "- b aab babab", "a ba"},
	{"a.*b", "ab aab acbb", "- a b aba"},
	{"(a|b)*&~(.*aa.*)", "- a abab bb", "aa baab c"},
	{"b~(.*b.*)b", "bb bab bccb", "b bbb babb"},
	{"(~a)*", "- b aa aab", "a"},
	{"(a&b)*", "-", "a b ab"},
	{"((a|b)&~b)+b", "ab aab", "b abb -"},
	{"(~(.*;.*);)*", "- ; a; a;bb;;", "a ;a"},
}

// P2.1, B4, B5: words that match, and words that do not.
func TestMatch(t *testing.T) {
	for i, c := range examples {
		x := parsed(t, c.s)
		for _, w := range strings.Fields(c.yes) {
			if w == "-" && !strings.Contains(c.s, `\x2d`) {
				w = ""
			}
			if !regex.Match(x, []byte(w)) {
				t.Errorf("case %d: %q does not match %q", i, w, c.s)
			}
		}
		for _, w := range strings.Fields(c.no) {
			if w == "-" {
				w = ""
			}
			if regex.Match(x, []byte(w)) {
				t.Errorf("case %d: %q matches %q", i, w, c.s)
			}
		}
		if want := slices.Contains(strings.Fields(c.yes), "-") && !strings.Contains(c.s, `\x2d`); regex.Nullable(x) != want {
			t.Errorf("case %d: Nullable of %q is not %t", i, c.s, want)
		}
	}
}

// P2.1, B5, P2.6: the language of an expression by its definition, and the empty word.
func TestMatchDefinition(t *testing.T) {
	s := sequence()
	l := append(words("ab", 5), "-", "c", "a~", "aaaaaaaaaaaaaaaa", "abababab")
	for range 1200 {
		x := tree(s, 1+s.next(12))
		if s.next(2) == 0 {
			x = shuffled(s, x)
		}
		for _, w := range l {
			if got, want := regex.Match(x, []byte(w)), inLanguage(x, len(x)-1, w); got != want {
				t.Fatalf("%v: %q: got %t, want %t", x, w, got, want)
			}
		}
		if got, want := regex.Nullable(x), inLanguage(x, len(x)-1, ""); got != want {
			t.Fatalf("%v: Nullable: got %t, want %t", x, got, want)
		}
		if regex.Nullable(x) != regex.Match(x, nil) || regex.Match(x, nil) != regex.Match(x, []byte{}) {
			t.Fatalf("%v: the empty word", x)
		}
	}
}

// P2.3: union, intersection and complement.
func TestBooleanOperations(t *testing.T) {
	s := sequence()
	l := words("ab", 4)
	for range 300 {
		x, y := tree(s, 1+s.next(8)), tree(s, 1+s.next(8))
		for _, w := range l {
			b := []byte(w)
			inX, inY := regex.Match(x, b), regex.Match(y, b)
			if regex.Match(alt(x, y), b) != (inX || inY) {
				t.Fatalf("union of %v and %v: %q", x, y, w)
			}
			if regex.Match(and(x, y), b) != (inX && inY) {
				t.Fatalf("intersection of %v and %v: %q", x, y, w)
			}
			if regex.Match(not(x), b) == inX {
				t.Fatalf("complement of %v: %q", x, w)
			}
		}
		if regex.Nullable(not(x)) == regex.Nullable(x) {
			t.Fatalf("complement of %v: the empty word", x)
		}
	}
}

// P2.4: a word of a concatenation can be split.
func TestConcatenation(t *testing.T) {
	s := sequence()
	for range 300 {
		x, y := tree(s, 1+s.next(8)), tree(s, 1+s.next(8))
		for _, w := range words("ab", 4) {
			want := false
			for k := range len(w) + 1 {
				want = want || regex.Match(x, []byte(w[:k])) && regex.Match(y, []byte(w[k:]))
			}
			if regex.Match(concat(x, y), []byte(w)) != want {
				t.Fatalf("%v and %v: %q: want %t", x, y, w, want)
			}
		}
	}
}

// P2.5: a repetition unfolds.
func TestRepetition(t *testing.T) {
	s := sequence()
	l := append(words("ab", 5), "aaaaaaaaaaaaaaaa", "abababababab")
	for range 200 {
		x := tree(s, 1+s.next(6))
		for _, b := range bounds {
			least, most := b[0], b[1]
			unfolded := api.Regex{node(api.RxEmpty, 0, 0)}
			if most != 0 {
				unfolded = concat(x, times(x, max(least-1, 0), max(most-1, -1)))
				if least == 0 {
					unfolded = alt(unfolded, api.Regex{node(api.RxEmpty, 0, 0)})
				}
			}
			sameWords(t, "a repetition and its unfolding", times(x, least, most), unfolded, l)
		}
	}
}

// P1, P2.1: long words, and repetitions within repetitions whose ways could be followed again and again.
func TestMatchLong(t *testing.T) {
	long := strings.Repeat("a", api.MaxMessage)
	// Each of these repetitions goes as many ways as the one inside it, sixteen times.
	deep := "a?"
	for range 12 {
		deep = "(" + deep + "b|.?){16,16}"
	}
	for i, c := range []struct {
		s, w string
		want bool
	}{
		{".*", long, true},
		{".*b", long, false},
		{".*a.*a.*", long, true},
		{"(a*b)*", long, false},
		{"(a*a)*", long, true},
		{"((a*)*)*b", long, false},
		{"(aa)*", long, true},
		{"(aa)*", long[1:], false},
		{"(aaa|aaaaa)*", long[:7], false},
		{"(aaa|aaaaa)*", long, true},
		{"~(.*b.*)", long, true},
		{"(~(.*b.*)b)*", long + "b", true},
		{"(.*&~b)*", long[:1000], true},
		{"(.|.(.|.(.|.(.*)b)*b)*b)*", long[:400], true},
		{"(.|.(.|.(.|.(.*)b)*b)*b)*c", long[:400], false},
		{"a" + strings.Repeat("{16,16}", 100), long, false},
		{"a?" + strings.Repeat("{16,16}", 100), long[:1000], true},
		{"a?" + strings.Repeat("{16,16}", 100), long[:1000] + "b", false},
		{"()" + strings.Repeat("{16,16}", 199), "", true},
		{"!" + strings.Repeat("{16,16}", 199), "", false},
		{"a" + strings.Repeat("*", 199), long, true},
		{"a" + strings.Repeat("{0,16}", 199), long, true},
		{strings.Repeat("~", 199) + "a", long, true},
		{deep, long[:16], true},
		{deep, long[:17], false},
	} {
		if got := regex.Match(parsed(t, c.s), []byte(c.w)); got != c.want {
			t.Errorf("case %d: %.40q: got %t, want %t", i, c.s, got, c.want)
		}
	}
	if !regex.Match(parsed(t, "a*~b"), bytes.Repeat([]byte("a"), 1<<17)) {
		t.Error("a word that is longer than a message")
	}
}

// P1: no function panics, whatever the fields of the nodes are.
func TestArbitraryExpressions(t *testing.T) {
	s := sequence()
	odd := []int{0, 0, 0, 1, 2, 3, 4, -1, -2, 16, 17, 200, 1 << 40, -1 << 63, 1<<63 - 1}
	valid := 0
	for range 20000 {
		var x api.Regex
		for i := range 1 + s.next(4) {
			n := api.RegexNode{Kind: s.next(10), L: odd[s.next(len(odd))], R: odd[s.next(len(odd))]}
			if s.next(3) == 0 {
				n.Min, n.Max = odd[s.next(len(odd))], odd[s.next(len(odd))]
			}
			if s.next(3) == 0 {
				n.C = classOf("ab")
			}
			switch {
			case s.next(2) == 0:
			case i == 0:
				n = byteOf("a")
			default:
				n = repeat(i-1, s.next(18), s.next(19)-1)
			}
			x = append(x, n)
		}
		y := slices.Clone(x)
		err := regex.Valid(x)
		text, err2 := regex.Format(x)
		matches := regex.Match(x, []byte("ab"))
		if err != err2 || err != api.OK && (text != "" || matches || regex.Nullable(x)) {
			t.Fatalf("%v: %v, %q, %v, %t", x, err, text, err2, matches)
		}
		if err == api.OK {
			valid++
		}
		if !slices.Equal(x, y) {
			t.Fatalf("%v has become %v", y, x)
		}
	}
	if valid < 100 {
		t.Errorf("only %d expressions were valid", valid)
	}
}

// P2: matching leaves its arguments alone and is repeatable.
func TestMatchKeepsArguments(t *testing.T) {
	x := parsed(t, "(~(.*;.*);)*&.{2,5}")
	b := []byte("a;b;")
	y, c := slices.Clone(x), slices.Clone(b)
	if !regex.Match(x, b) || !regex.Match(x, b) || regex.Nullable(x) {
		t.Error("a;b; has to match")
	}
	if !slices.Equal(x, y) || !slices.Equal(b, c) {
		t.Error("an argument was changed")
	}
}
