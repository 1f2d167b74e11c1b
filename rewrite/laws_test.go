package rewrite_test

import (
	"slices"
	"strings"
	"testing"

	"univocal/api"
	"univocal/class"
	"univocal/rewrite"
)

// everyByte is the word of all bytes.
func everyByte() string { return string(class.Bytes(class.Range(0, 255))) }

// P8.3: changes of case are idempotent and preserve lengths; the last one counts.
func TestCase(t *testing.T) {
	lower, upper := simple(api.OpLower), simple(api.OpUpper)
	for _, w := range append(inputs(lower), everyByte(), "Hello, World!") {
		small, large := did(t, lower, w), did(t, upper, w)
		if did(t, lower, small) != small || did(t, upper, large) != large {
			t.Fatalf("%q: %q and %q are changed again", w, small, large)
		}
		if len(small) != len(w) || len(large) != len(w) {
			t.Fatalf("%q: %q and %q", w, small, large)
		}
		if did(t, lower, large) != small || did(t, upper, small) != large {
			t.Fatalf("%q: %q and %q do not lead to each other", w, small, large)
		}
		if strings.ContainsAny(small, "ABCDEFGHIJKLMNOPQRSTUVWXYZ") || strings.ContainsAny(large, "abcdefghijklmnopqrstuvwxyz") {
			t.Fatalf("%q: %q and %q", w, small, large)
		}
	}
}

// encoded writes every byte of w as a percent sequence with digits of one text for the first, and of another for the second.
func encoded(w, first, second string) string {
	var s []byte
	for _, x := range []byte(w) {
		s = append(s, '%', first[x>>4], second[x&15])
	}
	return string(s)
}

// P8.4: decoding inverts the encoding of every byte.
func TestPercentInverse(t *testing.T) {
	const small, large = "0123456789abcdef", "0123456789ABCDEF"
	r := numbers()
	for i := range 100 {
		w := word(r, "%41", 20)
		if i == 0 {
			w = everyByte()
		}
		for _, s := range []string{encoded(w, small, small), encoded(w, small, large), encoded(w, large, small), encoded(w, large, large)} {
			if did(t, simple(api.OpPercent), s) != w || did(t, simple(api.OpPercentLax), s) != w {
				t.Fatalf("%q is not decoded to %q", s, w)
			}
		}
		twice := encoded(encoded(w, small, large), large, small)
		if once := did(t, simple(api.OpPercent), twice); did(t, simple(api.OpPercentLax), once) != w {
			t.Fatalf("%q is decoded to %q", twice, once)
		}
	}
}

// P8.4: the lax operation has the result of the strict one wherever that accepts.
func TestPercentLax(t *testing.T) {
	accepted := 0
	for _, w := range inputs(simple(api.OpPercent)) {
		lax := did(t, simple(api.OpPercentLax), w)
		if strict, ok := done(simple(api.OpPercent), w); ok {
			accepted++
			if lax != strict {
				t.Fatalf("%q: %q and %q", w, strict, lax)
			}
		} else if !strings.Contains(lax, "%") {
			t.Fatalf("%q is rejected, but decoded to %q", w, lax)
		}
	}
	if accepted < 1000 {
		t.Errorf("%d words are accepted", accepted)
	}
}

// P8.5: all occurrences are replaced one after the other.
func TestReplacement(t *testing.T) {
	found, missing := 0, 0
	for _, o := range samples() {
		if o.Kind != api.OpReplaceAll {
			continue
		}
		first := op(api.OpReplaceFirst, string(o.Old), string(o.New))
		for _, w := range inputs(o) {
			i := strings.Index(w, string(o.Old))
			if i < 0 {
				missing++
				if did(t, o, w) != w || did(t, first, w) != w {
					t.Fatalf("%v of %q, without an occurrence: %q and %q", o, w, did(t, o, w), did(t, first, w))
				}
				continue
			}
			found++
			end := i + len(o.Old)
			if got, want := did(t, o, w), did(t, first, w[:end])+did(t, o, w[end:]); got != want {
				t.Fatalf("%v of %q: %q, want %q", o, w, got, want)
			}
			if got, want := did(t, first, w), did(t, first, w[:end])+w[end:]; got != want {
				t.Fatalf("%v of %q: %q, want %q", first, w, got, want)
			}
		}
	}
	if found < 1000 || missing < 1000 {
		t.Errorf("%d words with and %d without an occurrence", found, missing)
	}
}

// P8.6: the bytes of Old do not remain; all others do, in order.
func TestDrop(t *testing.T) {
	for _, o := range samples() {
		if o.Kind != api.OpDrop {
			continue
		}
		for _, w := range inputs(o) {
			got := did(t, o, w)
			for i := range o.Old {
				if strings.Contains(got, string(o.Old[i:i+1])) {
					t.Fatalf("%v of %q: %q", o, w, got)
				}
			}
			var rest []byte
			for _, x := range []byte(w) {
				if !slices.Contains(o.Old, x) {
					rest = append(rest, x)
				}
			}
			if got != string(rest) || did(t, o, got) != got {
				t.Fatalf("%v of %q: %q, want %q", o, w, got, rest)
			}
		}
	}
}

// P8.6: no two consecutive bytes Old[0] remain; other runs do.
func TestSqueeze(t *testing.T) {
	for _, o := range samples() {
		if o.Kind != api.OpSqueeze {
			continue
		}
		one := string(o.Old)
		for _, w := range inputs(o) {
			got := did(t, o, w)
			if strings.Contains(got, one+one) || did(t, o, got) != got || strings.Contains(w, one) != strings.Contains(got, one) {
				t.Fatalf("%v of %q: %q", o, w, got)
			}
			if strings.ReplaceAll(got, one, "") != strings.ReplaceAll(w, one, "") {
				t.Fatalf("%v of %q: %q", o, w, got)
			}
		}
	}
}

// P8.6: nothing is removed from a result of Trim, which is inside of the word, between members of the class.
func TestTrimAgain(t *testing.T) {
	for _, members := range []string{"", "a", "ab", "%\x00\xff", everyByte()} {
		c := class.Of([]byte(members))
		for _, w := range inputs(op(api.OpDrop, members[:min(len(members), 8)], "")) {
			got := string(rewrite.Trim(c, []byte(w)))
			if again := string(rewrite.Trim(c, []byte(got))); again != got {
				t.Fatalf("%q without %q: %q, then %q", w, members, got, again)
			}
			before, after, inside := strings.Cut(w, got)
			if got == "" {
				after = w
			}
			if !inside || strings.ContainsFunc(latin(before+after), func(x rune) bool { return !class.Has(c, byte(x)) }) {
				t.Fatalf("%q without %q: %q", w, members, got)
			}
		}
	}
}

// latin returns the text whose runes are the bytes of w.
func latin(w string) string {
	var l []rune
	for _, x := range []byte(w) {
		l = append(l, rune(x))
	}
	return string(l)
}
