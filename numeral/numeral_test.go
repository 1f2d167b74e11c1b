package numeral_test

import (
	"math"
	"strings"
	"testing"

	"univocal/api"
	"univocal/numeral"
)

// P9.1, I1: which rules are valid.
func TestValid(t *testing.T) {
	l := all()
	if len(l) != 2*6*50*3*2 {
		t.Errorf("%d rules", len(l))
	}
	for _, r := range l {
		if err := numeral.Valid(r); err != api.OK {
			t.Errorf("%v: %v", r, err)
		}
	}
	for what, r := range invalid() {
		for range 2 {
			if err := numeral.Valid(r); err != api.ErrArg {
				t.Errorf("%s, %v: %v", what, r, err)
			}
			r.Zeros = true
		}
	}
}

// P9.1, I2 to I4: rules that are not valid have no texts.
func TestInvalid(t *testing.T) {
	for what, r := range invalid() {
		for _, w := range []string{"", "0", "1", "10", "07", "99999999"} {
			if n, ok := read(r, w); ok || n != 0 {
				t.Errorf("%s: Read(%q) is %s", what, w, shown(n, ok))
			}
		}
		if d, err := numeral.Language(r); err != api.ErrArg || !same(d, api.DFA{}) {
			t.Errorf("%s: Language is %v, %v", what, d, err)
		}
		for _, n := range []int{math.MinInt, -1, 0, 1, r.Top, math.MaxInt} {
			if b, ok := numeral.Write(r, n); ok || len(b) != 0 {
				t.Errorf("%s: Write(%d) is %q, %v", what, n, b, ok)
			}
			if d, err := numeral.Texts(r, n); err != api.ErrArg || !same(d, api.DFA{}) {
				t.Errorf("%s: Texts(%d) is %v, %v", what, n, d, err)
			}
		}
	}
}

// P9.1, I2: values, the chapter's examples first; -1 stands for no value.
func TestRead(t *testing.T) {
	for _, c := range []struct {
		base, digits, top int
		flags, b          string
		want              int
	}{
		{10, 3, 50, "w", "1000", 31},
		{10, 2, 20, "", "7", 7}, {10, 2, 20, "", "20", 20},
		{10, 2, 20, "", "21", -1}, {10, 2, 20, "", "007", -1}, {10, 2, 20, "", "07", -1}, {10, 2, 20, "", "", -1}, {10, 2, 20, "", "2a", -1},
		{10, 2, 20, "s", "21", 20}, {10, 2, 20, "s", "100", 20},
		{10, 2, 20, "w", "21", 0}, {10, 2, 20, "w", "25", 4}, {10, 2, 20, "w", "100", 16},
		{10, 2, 20, "z", "07", 7}, {10, 2, 20, "sz", "07", 7}, {10, 2, 20, "wz", "07", 7},
		{10, 2, 20, "z", "007", -1}, {10, 2, 20, "sz", "007", 20}, {10, 2, 20, "wz", "007", 7},
		{16, 2, 20, "", "14", 20}, {16, 2, 20, "zw", "0014", 20}, {16, 2, 20, "", "A", 10}, {16, 2, 20, "", "a", 10},

		{10, 2, 20, "", "0", 0}, {10, 1, 1, "", "0", 0}, {10, 2, 20, "s", "00", -1}, {10, 2, 20, "w", "00", -1}, {10, 2, 20, "w", "021", -1},
		{10, 2, 20, "z", "00", 0}, {10, 2, 20, "sz", "000", 20}, {10, 2, 20, "wz", "000", 0}, {10, 2, 20, "sz", "0000001", 20},
		{10, 1, 20, "", "9", 9}, {10, 1, 20, "", "10", -1}, {10, 1, 20, "s", "10", 20}, {10, 1, 20, "w", "10", 10}, {10, 1, 20, "w", "20", 20},
		{10, 1, 5, "", "6", -1}, {10, 1, 5, "s", "6", 5}, {10, 1, 5, "w", "6", 0}, {10, 1, 5, "w", "9", 3},
		{10, 6, 50, "", "50", 50}, {10, 6, 50, "", "51", -1}, {10, 6, 50, "z", "000050", 50}, {10, 6, 50, "z", "0000050", -1},
		{10, 6, 50, "sz", "0000050", 50}, {10, 6, 50, "sz", "0000049", 50}, {10, 6, 50, "wz", "0000049", 49},
		{16, 6, 50, "", "32", 50}, {16, 6, 50, "", "33", -1}, {16, 2, 50, "", "2F", 47}, {16, 2, 50, "", "2f", 47}, {16, 2, 50, "z", "0f", 15},
		{16, 2, 50, "w", "fF", 0}, {16, 2, 50, "w", "1FF", 1}, {16, 1, 50, "", "F", 15}, {16, 1, 50, "", "10", -1}, {16, 1, 50, "w", "10", 16},
		{10, 2, 20, "w", "a", -1}, {10, 2, 20, "w", "A", -1}, {16, 2, 20, "w", "g", -1}, {16, 2, 20, "w", "G", -1}, {16, 2, 20, "w", "@", -1}, {16, 2, 20, "w", "`", -1},
		{10, 2, 20, "w", "/", -1}, {10, 2, 20, "w", ":", -1}, {10, 2, 20, "wz", " 1", -1}, {10, 2, 20, "wz", "1 ", -1}, {10, 2, 20, "wz", "+1", -1}, {10, 2, 20, "wz", "-1", -1},
		{10, 2, 20, "sz", "99x", -1}, {10, 2, 20, "sz", "x99", -1}, {10, 2, 20, "sz", "1_0", -1}, {16, 2, 20, "sz", "0x1", -1}, {10, 2, 20, "sz", "1\x00", -1}, {10, 2, 20, "sz", "\xff1", -1},
	} {
		n, ok := read(rule(c.base, c.digits, c.top, c.flags), c.b)
		if ok != (c.want >= 0) || n != max(c.want, 0) {
			t.Errorf("base %d, %d digits, top %d, flags %q: %q is %s, want %d", c.base, c.digits, c.top, c.flags, c.b, shown(n, ok), c.want)
		}
	}
}

// P9.1, I2: the values are those of the chapter's definition, under every rule.
func TestReadReference(t *testing.T) {
	l := inputs()
	each(all(), func(r api.Rule) {
		values := 0
		for _, w := range l {
			n, ok := read(r, w)
			want, has := reference(r, w)
			if n != want || ok != has {
				t.Errorf("%v: %q is %s, want %s", r, w, shown(n, ok), shown(want, has))
				return
			}
			if ok {
				values++
			}
		}
		if values < 2 || values == len(l) {
			t.Errorf("%v: %d of %d inputs have a value", r, values, len(l))
		}
	})
}

// P9.1, I2: numbers of any size.
func TestReadLong(t *testing.T) {
	const zeros = 1 << 16
	for _, c := range []struct {
		r    api.Rule
		b    string
		want int
	}{
		// 10 to the power of 65536 is 1 modulo 9 and modulo 17, and 4 modulo 21.
		{rule(10, 2, 8, "w"), "1" + strings.Repeat("0", zeros), 1},
		{rule(10, 2, 16, "w"), "1" + strings.Repeat("0", zeros), 1},
		{rule(10, 2, 20, "w"), "1" + strings.Repeat("0", zeros), 4},
		{rule(10, 2, 8, "w"), strings.Repeat("8", zeros), 8 * zeros % 9},
		{rule(10, 2, 9, "w"), strings.Repeat("8", zeros), 8},
		{rule(16, 2, 14, "w"), strings.Repeat("e", zeros), 14 * zeros % 15},
		{rule(16, 2, 15, "w"), strings.Repeat("e", zeros), 14},
		{rule(10, 6, 50, "s"), strings.Repeat("8", zeros), 50},
		{rule(10, 6, 50, "wz"), strings.Repeat("0", zeros) + "53", 2},
		{rule(10, 6, 50, "sz"), strings.Repeat("0", zeros) + "1", 50},
	} {
		want, _ := reference(c.r, c.b)
		if n, ok := read(c.r, c.b); !ok || n != want || n != c.want {
			t.Errorf("%v of %d bytes: %s, want %d, or %d by the definition", c.r, len(c.b), shown(n, ok), c.want, want)
		}
		for _, w := range []string{c.b + "x", "x" + c.b, c.b + "\x00"} {
			if n, ok := read(c.r, w); ok || n != 0 {
				t.Errorf("%v of %d bytes with another one: %s", c.r, len(c.b), shown(n, ok))
			}
		}
	}
	if n, ok := read(rule(10, 6, 50, "z"), strings.Repeat("0", zeros)); ok || n != 0 {
		t.Errorf("%d zeros: %s", zeros, shown(n, ok))
	}
}

// P9.1, I3: texts, the chapter's examples first; "-" stands for no text.
func TestWrite(t *testing.T) {
	for _, c := range []struct {
		base, digits, top int
		flags             string
		n                 int
		want              string
	}{
		{16, 2, 20, "", 10, "A"},
		{10, 1, 20, "", 9, "9"}, {10, 1, 20, "", 10, "-"}, {10, 1, 20, "s", 20, "10"}, {10, 1, 20, "s", 10, "-"},

		{10, 2, 20, "", 0, "0"}, {10, 2, 20, "z", 0, "0"}, {10, 2, 20, "z", 7, "7"}, {10, 2, 20, "", 20, "20"}, {10, 2, 20, "s", 20, "20"}, {10, 2, 20, "w", 20, "20"},
		{10, 1, 20, "w", 10, "10"}, {10, 1, 20, "w", 20, "20"}, {10, 1, 20, "w", 0, "0"}, {10, 1, 20, "z", 10, "-"}, {10, 1, 20, "sz", 20, "00"}, {10, 1, 20, "sz", 19, "-"},
		{10, 1, 5, "s", 5, "5"}, {10, 1, 5, "w", 5, "5"}, {10, 1, 5, "s", 6, "-"}, {10, 1, 5, "w", 6, "-"}, {10, 1, 5, "w", 0, "0"},
		{16, 1, 15, "", 15, "F"}, {16, 1, 16, "", 16, "-"}, {16, 1, 16, "s", 16, "10"}, {16, 1, 16, "sz", 16, "00"}, {16, 1, 50, "w", 47, "2F"}, {16, 6, 50, "", 50, "32"},
		{10, 2, 20, "w", 21, "-"}, {10, 2, 20, "w", -1, "-"}, {10, 2, 20, "", math.MinInt, "-"}, {10, 2, 20, "s", math.MaxInt, "-"}, {10, 2, 20, "w", 1<<32 + 1, "-"},
	} {
		b, ok := numeral.Write(rule(c.base, c.digits, c.top, c.flags), c.n)
		if ok != (c.want != "-") || ok && string(b) != c.want || !ok && len(b) > 0 {
			t.Errorf("base %d, %d digits, top %d, flags %q: %d is %q, %v, want %s", c.base, c.digits, c.top, c.flags, c.n, b, ok, c.want)
		}
	}
}

// P9.1, I3, and P9.3: what Write returns is the least numeral with the value, under every rule.
func TestWriteReference(t *testing.T) {
	// Numbers up to 50 have at most two digits; if that is too many, so that only too large numerals remain, two are enough.
	numerals := map[int][]string{10: shortlex(10, 3), 16: shortlex(16, 2)}
	each(all(), func(r api.Rule) {
		first := firsts(r, numerals[r.Base])
		for n := -1; n <= r.Top+1; n++ {
			b, ok := numeral.Write(r, n)
			if want, has := first[n]; string(b) != want || ok != has {
				t.Errorf("%v: %d is %q, %v, want %q, %v", r, n, b, ok, want, has)
				return
			}
		}
	})
}
