package rewrite_test

import (
	"strings"
	"testing"

	"univocal/api"
	"univocal/class"
	"univocal/rewrite"
)

// P8.1, H1: which operations are valid.
func TestValid(t *testing.T) {
	for _, o := range samples() {
		if err := rewrite.Valid(o); err != api.OK {
			t.Errorf("%v: %v", o, err)
		}
	}
	for n := range 5 {
		for kind := api.OpReplaceFirst; kind <= api.OpReplaceAll; kind++ {
			o := op(kind, strings.Repeat("a", max(n, 1)), strings.Repeat("b", n))
			if err := rewrite.Valid(o); err != api.OK {
				t.Errorf("%v: %v", o, err)
			}
		}
		if err := rewrite.Valid(op(api.OpDrop, strings.Repeat("a", 4+n), "")); err != api.OK {
			t.Errorf("drop of %d bytes: %v", 4+n, err)
		}
	}
	for what, o := range invalid() {
		if err := rewrite.Valid(o); err != api.ErrArg {
			t.Errorf("%s: %v", what, err)
		}
	}
}

// P8.1, H2 and H4: operations that are not valid have no results.
func TestInvalid(t *testing.T) {
	for what, o := range invalid() {
		for _, w := range []string{"", "a", "xayb%41"} {
			if b, ok := rewrite.Do(o, []byte(w)); ok || len(b) > 0 {
				t.Errorf("%s: %q", what, b)
			}
		}
		if m, err := rewrite.Machine(o); err != api.ErrArg || len(m.Classes)+len(m.Moves)+len(m.Final)+len(m.Ends) > 0 {
			t.Errorf("%s: %v, %v", what, m, err)
		}
	}
}

// P8.1, H2: results, the chapter's examples first.
func TestDo(t *testing.T) {
	for _, c := range []struct {
		o       api.Op
		b, want string
	}{
		{simple(api.OpLower), "aB-Z", "ab-z"},
		{simple(api.OpPercent), "a%41%2f", "aA/"},
		{simple(api.OpPercentLax), "%4%41", "%4A"},
		{op(api.OpReplaceFirst, "aa", "b"), "aaaa", "baa"},
		{op(api.OpReplaceAll, "aa", "b"), "aaaaa", "bba"},
		{op(api.OpDrop, "xy", ""), "axbyx", "ab"},
		{op(api.OpSqueeze, "/", ""), "a/b///c/", "a/b/c/"},

		{simple(api.OpLower), "@AZ[`az{\x00\xc1\xff", "@az[`az{\x00\xc1\xff"},
		{simple(api.OpUpper), "@AZ[`az{\x00\xe1\xff", "@AZ[`AZ{\x00\xe1\xff"},
		{simple(api.OpPercent), "%00%fF%Ff%20+", "\x00\xff\xff +"},
		{simple(api.OpPercent), "%2541", "%41"},
		{simple(api.OpPercent), "%25%34%31", "%41"},
		{simple(api.OpPercentLax), "%%%41", "%%A"},
		{simple(api.OpPercentLax), "%2541%", "%41%"},
		{simple(api.OpPercentLax), "%g1%1g%G", "%g1%1g%G"},
		{simple(api.OpPercentLax), "%aB%A", "\xab%A"},
		{op(api.OpReplaceFirst, "ab", "abab"), "xabab", "xababab"},
		{op(api.OpReplaceAll, "ab", "abab"), "xabab", "xabababab"},
		{op(api.OpReplaceFirst, "ab", ""), "aabb", "ab"},
		{op(api.OpReplaceAll, "ab", ""), "aabb", "ab"},
		{op(api.OpReplaceAll, "aba", "x"), "ababababa", "xbxba"},
		{op(api.OpReplaceAll, "aab", "x"), "aaaab", "aax"},
		{op(api.OpReplaceAll, "abac", "x"), "ababac", "abx"},
		{op(api.OpReplaceAll, "a", "b"), "", ""},
		{op(api.OpReplaceFirst, "abcd", "x"), "abc", "abc"},
		{op(api.OpDrop, "aab", ""), "abcab", "c"},
		{op(api.OpDrop, "%4", ""), "%41", "1"},
		{op(api.OpSqueeze, "a", ""), "aabbaaa", "abba"},
		{op(api.OpSqueeze, "\x00", ""), "\x00\x00", "\x00"},
	} {
		if got := did(t, c.o, c.b); got != c.want {
			t.Errorf("%v of %q: %q, want %q", c.o, c.b, got, c.want)
		}
	}
}

// P8.1, H2: what the strict decoding rejects; the lax one rejects nothing.
func TestDoRejects(t *testing.T) {
	for _, w := range []string{"5%4", "%", "%%", "%%41", "%4%41", "%41%", "%g1", "%1g", "%1G", "%/0", "%0:", "%@0", "%0`", "% 41", "%+1", "%0x", "%1\x1a", "%\xb11"} {
		if s, ok := done(simple(api.OpPercent), w); ok || s != "" {
			t.Errorf("%q: %q", w, s)
		}
		if s := did(t, simple(api.OpPercentLax), w); len(s) < len(w) && !strings.Contains(w, "%41") {
			t.Errorf("%q: %q", w, s)
		}
	}
}

// P8.1, H2: the results are those of the chapter's table.
func TestDoReference(t *testing.T) {
	for _, o := range samples() {
		rejected := 0
		for _, w := range inputs(o) {
			got, ok := done(o, w)
			want, some := reference(o, w)
			if got != want || ok != some {
				t.Fatalf("%v of %q: %s, want %s", o, w, text(got, ok), text(want, some))
			}
			if !ok {
				rejected++
			}
		}
		if rejected > 0 != (o.Kind == api.OpPercent) {
			t.Errorf("%v rejects %d words", o, rejected)
		}
	}
}

// P8.1, H2: long words.
func TestDoLong(t *testing.T) {
	for _, c := range []struct {
		o       api.Op
		b, want string
	}{
		{simple(api.OpLower), "AbC", "abc"},
		{simple(api.OpUpper), "AbC", "ABC"},
		{simple(api.OpPercent), "%41b", "Ab"},
		{simple(api.OpPercentLax), "%4%41", "%4A"},
		{op(api.OpReplaceAll, "aa", "bcde"), "aab", "bcdeb"},
		{op(api.OpReplaceAll, "aaaa", ""), "aaab", "aaab"},
		{op(api.OpDrop, "ab", ""), "abc", "c"},
		{op(api.OpSqueeze, "a", ""), "aab", "ab"},
	} {
		const n = 1 << 17
		if got := did(t, c.o, strings.Repeat(c.b, n)); got != strings.Repeat(c.want, n) {
			t.Errorf("%v of many times %q", c.o, c.b)
		}
	}
}

// P8.1, H3: the chapter's example, words without other bytes, and classes at both ends of the bytes.
func TestTrim(t *testing.T) {
	for _, c := range []struct{ members, b, want string }{
		{" ", "  a b ", "a b"},
		{" ", "   ", ""},
		{" ", "", ""},
		{"", " a ", " a "},
		{" ", "a", "a"},
		{" ", " a", "a"},
		{" ", "a ", "a"},
		{"ab", "abcba", "c"},
		{"ab", "cabc", "cabc"},
		{"ab", "ba", ""},
		{"\x00\xff", "\xff\x00a\x00\xff\x01\x00", "a\x00\xff\x01"},
	} {
		if got := rewrite.Trim(class.Of([]byte(c.members)), []byte(c.b)); string(got) != c.want {
			t.Errorf("%q without %q: %q, want %q", c.b, c.members, got, c.want)
		}
	}
	for w := range strings.SplitSeq("  |a| a|%%", "|") {
		if got := rewrite.Trim(class.Range(0, 255), []byte(w)); len(got) > 0 {
			t.Errorf("%q without all bytes: %q", w, got)
		}
	}
}

// P8.1, H3: what is removed consists of members, and what remains neither begins nor ends with one.
func TestTrimWords(t *testing.T) {
	c := class.Of([]byte("ac"))
	for _, w := range words("abcd", 5) {
		got := string(rewrite.Trim(c, []byte(w)))
		if want := strings.TrimRight(strings.TrimLeft(w, "ac"), "ac"); got != want {
			t.Fatalf("%q: %q, want %q", w, got, want)
		}
		if strings.Trim(got, "ac") != got {
			t.Fatalf("%q: %q", w, got)
		}
	}
}
