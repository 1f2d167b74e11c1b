package regex_test

import (
	"slices"
	"strings"
	"testing"

	"univocal/api"
	"univocal/regex"
)

// canonical maps texts, which need not be canonical, to canonical texts.
var canonical = map[string]string{
	"a":                     "a",
	"(((a)))":               "a",
	`\x41`:                  "A",
	`\x2D`:                  `\x2d`,
	`\x00\x20\x7F\xAB`:      `\x00\x20\x7f\xab`,
	"!":                     "!",
	"()":                    "()",
	"[]":                    "[]",
	"[^]":                   ".",
	`[\x00-\xff]`:           ".",
	"[a-a]":                 "a",
	"[ba]":                  "[ab]",
	"[a-b]":                 "[ab]",
	"[abc]":                 "[a-c]",
	"[fa-cxz]":              "[a-cfxz]",
	"[a-cd-f]":              "[a-f]",
	"[^a]":                  `[\x00-` + "`" + `b-\xff]`,
	`[\x00a\xff]`:           `[\x00a\xff]`,
	`[\xfe-\xff]`:           `[\xfe\xff]`,
	`[\xfd-\xff]`:           `[\xfd-\xff]`,
	`[\x3f-\x40]`:           `[\x3f@]`,
	`[\x3e-\x41]`:           `[>-A]`,
	`[^\x00-\x60\x62-\xff]`: "a",
	"a{0,}":                 "a*",
	"a{1,}":                 "a+",
	"a{0,1}":                "a?",
	"a{1,1}":                "a{1,1}",
	"a{0,0}":                "a{0,0}",
	"a{2,}":                 "a{2,}",
	"a{2,16}":               "a{2,16}",
	// Operands of each kind, on each side.
	"()*!*[]+a?":       "()*!*[]+a?",
	"a*+?{2,3}":        "a*+?{2,3}",
	"(a*)*":            "a**",
	"(ab)*":            "(ab)*",
	"(a|b)*":           "(a|b)*",
	"(a&b)*":           "(a&b)*",
	"(~a)*":            "(~a)*",
	"~(a*)":            "~a*",
	"~(~a)":            "~~a",
	"~(ab)":            "~(ab)",
	"~(a|b)":           "~(a|b)",
	"~(a&b)":           "~(a&b)",
	"(~a)b":            "~ab",
	"a(~b)":            "a~b",
	"(ab)c":            "abc",
	"a(bc)":            "a(bc)",
	"(a|b)c":           "(a|b)c",
	"(a&b)c":           "(a&b)c",
	"a(b|c)":           "a(b|c)",
	"a(b&c)":           "a(b&c)",
	"(a*)(b*)":         "a*b*",
	"(ab)&(cd)":        "ab&cd",
	"(a|b)&c":          "(a|b)&c",
	"a&(b|c)":          "a&(b|c)",
	"(a&b)&c":          "a&b&c",
	"a&(b&c)":          "a&(b&c)",
	"(~a)&(~b)":        "~a&~b",
	"(a|b)|c":          "a|b|c",
	"a|(b|c)":          "a|(b|c)",
	"(a&b)|(c&d)":      "a&b|c&d",
	"(ab)|(cd)":        "ab|cd",
	"(~a)|(b*)":        "~a|b*",
	"~((~(ab))*)":      "~(~(ab))*",
	"((a|b)&(c|d))(e)": "((a|b)&(c|d))e",
}

// P2.1, B3: canonical texts of expressions, from texts that need not be canonical.
func TestFormat(t *testing.T) {
	for s, want := range canonical {
		if got, err := regex.Format(parsed(t, s)); got != want || err != api.OK {
			t.Errorf("%q: %q, %v; want %q", s, got, err, want)
		}
	}
	x := api.Regex{byteOf("-"), node(api.RxNot, 0, 0), repeat(1, 0, -1)}
	if s, err := regex.Format(x); s != `(~\x2d)*` || err != api.OK {
		t.Errorf("the chapter's example: %q, %v", s, err)
	}
}

// P2.1, B3: a text of more than MaxText bytes.
func TestFormatLimit(t *testing.T) {
	// The class of every other byte, with the text of one byte for each of n members more than its brackets.
	wide := func(n int) api.Regex {
		s := ""
		for i := range n {
			s += string([]byte{byte(0x80 + 2*i)})
		}
		return api.Regex{byteOf(s)}
	}
	// Each class of 62 bytes has a text of 250 bytes.
	x := wide(62)
	for range 15 {
		x = concat(x, wide(62))
	}
	s, err := regex.Format(x)
	if len(s) != 4000 || err != api.OK {
		t.Errorf("%d bytes, %v", len(s), err)
	}
	if y := parsed(t, s); !slices.Equal(x, y) {
		t.Error("the longest text is not read back")
	}
	if s, err := regex.Format(concat(x, api.Regex{byteOf("a")})); s != "" || err != api.ErrBig {
		t.Errorf("4001 bytes: %q, %v", s, err)
	}
	if s, err := regex.Format(append(slices.Clone(x), api.RegexNode{})); s != "" || err != api.ErrArg {
		t.Errorf("not valid: %q, %v", s, err)
	}
}

// P2.2: the canonical text of an expression is read back as the same expression.
func TestTextRoundTrip(t *testing.T) {
	s := sequence()
	l := append(words("ab", 3), "-", "*~", "a-", "aaaa")
	for i := range 1500 {
		x := tree(s, 1+s.next(24))
		text, err := regex.Format(x)
		if err != api.OK {
			t.Fatalf("%v: %v", x, err)
		}
		if y := parsed(t, text); !slices.Equal(x, y) {
			t.Fatalf("%q: %v is read back as %v", text, x, y)
		}
		if i%5 > 0 {
			continue
		}
		// The order of the nodes does not show in the text.
		y := shuffled(s, x)
		if got, err := regex.Format(y); got != text || err != api.OK {
			t.Fatalf("%v: %q, %v, want %q", y, got, err, text)
		}
		sameWords(t, "in another order", x, y, l)
	}
}

// P2.2: parentheses are needed: without a pair of them the text is another expression, or none.
func TestNeededParentheses(t *testing.T) {
	s := sequence()
	for range 400 {
		x := tree(s, 1+s.next(16))
		text, _ := regex.Format(x)
		for i := range text {
			if text[i] != '(' || text[i+1] == ')' {
				continue
			}
			depth, j := 0, i
			for ; ; j++ {
				if text[j] == '(' {
					depth++
				} else if text[j] == ')' {
					depth--
				}
				if depth == 0 {
					break
				}
			}
			without := text[:i] + text[i+1:j] + text[j+1:]
			if y, _, err := regex.Parse(without); err == api.OK && slices.Equal(x, y) {
				t.Fatalf("%q and %q are the same expression", text, without)
			}
		}
	}
}

// P2: formatting leaves its argument alone and is repeatable.
func TestFormatKeepsArgument(t *testing.T) {
	x := parsed(t, "~(a|b[c-f]){2,5}&.*")
	y := slices.Clone(x)
	first, _ := regex.Format(x)
	second, _ := regex.Format(x)
	if !slices.Equal(x, y) || first != second || !strings.HasSuffix(first, "&.*") {
		t.Errorf("%q, then %q", first, second)
	}
}
