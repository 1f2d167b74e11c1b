package numeral_test

import (
	"math/big"
	"slices"
	"strconv"
	"strings"
	"testing"

	"univocal/api"
	"univocal/automaton"
	"univocal/class"
	"univocal/language"
	"univocal/regex"
)

// reference follows the chapter's definition of the value.
func reference(r api.Rule, b string) (int, bool) {
	digits := "0123456789"
	if r.Base == 16 {
		digits += "abcdefABCDEF"
	}
	if b == "" || strings.Trim(b, digits) != "" {
		return 0, false
	}
	if len(b) > 1 && b[0] == '0' && !r.Zeros {
		return 0, false
	}
	number, _ := new(big.Int).SetString(b, r.Base)
	if len(b) <= r.Digits && number.Cmp(big.NewInt(int64(r.Top))) <= 0 {
		return int(number.Int64()), true
	}
	switch r.Over {
	case api.OverReject:
		return 0, false
	case api.OverSaturate:
		return r.Top, true
	}
	return int(number.Mod(number, big.NewInt(int64(r.Top+1))).Int64()), true
}

// firsts returns the first one of some numerals for each value.
func firsts(r api.Rule, numerals []string) map[int]string {
	first := map[int]string{}
	for _, w := range numerals {
		if n, ok := reference(r, w); ok {
			if _, has := first[n]; !has {
				first[n] = w
			}
		}
	}
	return first
}

// shortlex returns the numerals of at most most digits in shortlex order.
func shortlex(base, most int) []string {
	digits := "0123456789ABCDEFabcdef"
	if base == 10 {
		digits = digits[:10]
	}
	l, last := []string(nil), []string{""}
	for range most {
		var next []string
		for _, w := range last {
			for _, x := range digits {
				next = append(next, w+string(x))
			}
		}
		l, last = append(l, next...), next
	}
	return l
}

// built returns the automaton of the text of an expression.
func built(t *testing.T, s string) api.DFA {
	x, at, err := regex.Parse(s)
	if err != api.OK {
		t.Errorf("Parse(%q): %v at %d", s, err, at)
	}
	d, err := language.Build(x)
	return made(t, s, d, err)
}

// made fails unless an operation on automata has a result.
func made(t *testing.T, what string, d api.DFA, err api.Errno) api.DFA {
	if err != api.OK {
		t.Errorf("%s: %v", what, err)
	}
	return d
}

// A model constructs the languages of a rule by operations on expressions and automata: the numerals that fit, by their
// numbers, and those that are too large.
type model struct {
	r    api.Rule
	fit  []api.DFA
	over api.DFA
}

func modelOf(t *testing.T, r api.Rule) model {
	digit := "0-9"
	if r.Base == 16 {
		digit = "0-9a-fA-F"
	}
	numerals := "0|([" + digit + "]&~0)[" + digit + "]*"
	if r.Zeros {
		numerals = "[" + digit + "]+"
	}
	m := model{r: r}
	fits := built(t, "!")
	for n := 0; n <= r.Top; n++ {
		d := built(t, fitting(r, n))
		m.fit = append(m.fit, d)
		or, err := automaton.Or(fits, d)
		fits = made(t, "fitting numerals", or, err)
	}
	over, err := automaton.Minus(built(t, numerals), fits)
	m.over = made(t, "too large numerals", over, err)
	return m
}

// fitting returns the text of an expression for the numerals of n that are not too large.
func fitting(r api.Rule, n int) string {
	s := strconv.FormatInt(int64(n), r.Base)
	if len(s) > r.Digits {
		return "!"
	}
	var x strings.Builder
	if r.Zeros {
		x.WriteString("0{0," + strconv.Itoa(r.Digits-len(s)) + "}")
	}
	for _, d := range s {
		x.WriteString("[" + string(d) + strings.ToUpper(string(d)) + "]")
	}
	return x.String()
}

// texts returns the automaton of the texts of n.
func (m model) texts(t *testing.T, n int) api.DFA {
	switch {
	case m.r.Over == api.OverSaturate && n == m.r.Top:
		d, err := automaton.Or(m.fit[n], m.over)
		return made(t, "saturated", d, err)
	case m.r.Over == api.OverWrap:
		d, err := automaton.And(m.over, remainders(m.r.Base, m.r.Top+1, n))
		d = made(t, "wrapped", d, err)
		d, err = automaton.Or(m.fit[n], d)
		return made(t, "wrapped or not", d, err)
	}
	return m.fit[n]
}

// remainders returns an automaton for the numerals whose numbers are n modulo m, and perhaps for the empty word.
func remainders(base, m, n int) api.DFA {
	d := api.DFA{Next: make([][]int, m+1), Accept: make([]bool, m+1)}
	d.Accept[n] = true
	rest := class.Range(0, 255)
	for v := range base {
		s := strconv.FormatInt(int64(v), base)
		c := class.Of([]byte(s + strings.ToUpper(s)))
		rest = class.Minus(rest, c)
		d.Classes = append(d.Classes, c)
		for q := range m {
			d.Next[q] = append(d.Next[q], (q*base+v)%m)
		}
		d.Next[m] = append(d.Next[m], m)
	}
	d.Classes = append(d.Classes, rest)
	for q := range d.Next {
		d.Next[q] = append(d.Next[q], m)
	}
	return d
}

func same(a, b api.DFA) bool {
	return slices.Equal(a.Classes, b.Classes) && slices.EqualFunc(a.Next, b.Next, slices.Equal) && slices.Equal(a.Accept, b.Accept)
}
