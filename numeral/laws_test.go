package numeral_test

import (
	"strconv"
	"strings"
	"testing"

	"univocal/api"
	"univocal/automaton"
	"univocal/numeral"
)

// P9.2: values are from 0 to Top.
func TestRange(t *testing.T) {
	l := inputs()
	each(all(), func(r api.Rule) {
		for _, w := range l {
			if n, ok := read(r, w); n < 0 || n > r.Top || !ok && n != 0 {
				t.Errorf("%v: %q is %s", r, w, shown(n, ok))
				return
			}
		}
	})
}

// P9.2: which numbers have texts.
func TestTextsExist(t *testing.T) {
	each(all(), func(r api.Rule) {
		for n := -1; n <= r.Top+1; n++ {
			fits := len(strconv.FormatInt(int64(n), r.Base)) <= r.Digits
			want := 0 <= n && n <= r.Top && (fits || r.Over == api.OverWrap || r.Over == api.OverSaturate && n == r.Top)
			if b, ok := numeral.Write(r, n); ok != want || ok != (len(b) > 0) {
				t.Errorf("%v: %d is %q, %v", r, n, b, ok)
				return
			}
		}
	})
}

// P9.3: reading what Write returns gives the number back; it is the least word that the automaton of its texts accepts.
func TestRoundTrip(t *testing.T) {
	each(some(), func(r api.Rule) {
		for n := 0; n <= r.Top; n++ {
			b, ok := numeral.Write(r, n)
			w, some := automaton.Least(texts(t, r, n))
			if ok != some || string(b) != string(w) {
				t.Errorf("%v: %d is %q, %v, but its least text is %q, %v", r, n, b, ok, w, some)
				return
			}
			if v, has := numeral.Read(r, b); has != ok || ok && v != n {
				t.Errorf("%v: %d is %q, which is %s", r, n, b, shown(v, has))
				return
			}
		}
	})
}

// P9.6: values under rules with OverReject remain under the others.
func TestOtherRules(t *testing.T) {
	l := inputs()
	for _, r := range all() {
		if r.Over != api.OverReject {
			continue
		}
		for _, w := range l {
			n, ok := read(r, w)
			if !ok {
				continue
			}
			for over := api.OverReject; over <= api.OverWrap; over++ {
				for _, zeros := range []bool{r.Zeros, true} {
					other := api.Rule{Base: r.Base, Digits: r.Digits, Top: r.Top, Over: over, Zeros: zeros}
					if v, has := read(other, w); !has || v != n {
						t.Fatalf("%v: %q is %d, but %s under %v", r, w, n, shown(v, has), other)
					}
				}
			}
		}
	}
}

// P9.6: leading zeros within Digits change nothing if they are allowed; otherwise no numeral has any.
func TestLeadingZeros(t *testing.T) {
	l := inputs()
	for _, r := range all() {
		for _, w := range l {
			if w == "" {
				continue
			}
			n, ok := read(r, w)
			for zeros := 1; zeros+len(w) <= r.Digits; zeros++ {
				v, has := read(r, strings.Repeat("0", zeros)+w)
				if has != (ok && r.Zeros) || has && v != n {
					t.Fatalf("%v: %q is %s, but %s with %d zeros", r, w, shown(n, ok), shown(v, has), zeros)
				}
			}
		}
	}
}

// P9.1: the letters of a text may be small or capital ones.
func TestCase(t *testing.T) {
	for _, r := range all() {
		for _, w := range []string{"a", "1b", "2f", "cafe", "0d", "00E", "aBcDeF", "f00"} {
			small, first := read(r, strings.ToLower(w))
			large, second := read(r, strings.ToUpper(w))
			if small != large || first != second || r.Base == 10 && first {
				t.Errorf("%v: %q is %s or %s", r, w, shown(small, first), shown(large, second))
			}
		}
	}
}
