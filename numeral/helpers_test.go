package numeral_test

import (
	"math"
	"math/rand/v2"
	"strconv"
	"strings"
	"sync"
	"testing"

	"univocal/api"
	"univocal/automaton"
	"univocal/numeral"
	"univocal/scope"
)

// rule returns a rule; flags may contain s (saturates), w (wraps) and z (allows leading zeros).
func rule(base, digits, top int, flags string) api.Rule {
	r := api.Rule{Base: base, Digits: digits, Top: top, Zeros: strings.Contains(flags, "z")}
	switch {
	case strings.Contains(flags, "s"):
		r.Over = api.OverSaturate
	case strings.Contains(flags, "w"):
		r.Over = api.OverWrap
	}
	return r
}

// rules returns the valid rules with the given greatest values.
func rules(tops ...int) []api.Rule {
	var l []api.Rule
	for _, base := range []int{10, 16} {
		for digits := 1; digits <= 6; digits++ {
			for _, top := range tops {
				for _, flags := range []string{"", "s", "w", "z", "sz", "wz"} {
					l = append(l, rule(base, digits, top, flags))
				}
			}
		}
	}
	return l
}

// all returns all valid rules.
func all() []api.Rule {
	var tops []int
	for top := 1; top <= 50; top++ {
		tops = append(tops, top)
	}
	return rules(tops...)
}

// some returns valid rules of all kinds, whose greatest values are those around which the number of digits changes.
func some() []api.Rule { return rules(1, 8, 9, 10, 15, 16, 17, 31, 49, 50) }

// invalid returns rules that are not valid, each because of one field.
func invalid() map[string]api.Rule {
	l := map[string]api.Rule{"nothing": {}}
	extremes := []int{math.MinInt, -1 << 32, -1, 1 << 32, 1<<32 + 1, 1<<32 + 10, math.MaxInt}
	for _, x := range append(extremes, 0, 1, 2, 8, 9, 11, 12, 15, 17, 26, 32) {
		r := rule(10, 2, 20, "")
		r.Base = x
		l["base "+strconv.Itoa(x)] = r
	}
	for _, x := range append(extremes, 0, 7, 8) {
		r := rule(10, 2, 20, "")
		r.Digits = x
		l["digits "+strconv.Itoa(x)] = r
	}
	for _, x := range append(extremes, 0, 51, 52, 64) {
		r := rule(10, 2, 20, "")
		r.Top = x
		l["top "+strconv.Itoa(x)] = r
	}
	for _, x := range append(extremes, 3, 4) {
		r := rule(10, 2, 20, "")
		r.Over = x
		l["over "+strconv.Itoa(x)] = r
	}
	return l
}

// each calls check for all elements of l, several at a time.
func each[T any](l []T, check func(x T)) {
	const workers = 8
	var w sync.WaitGroup
	for i := range workers {
		w.Go(func() {
			for j := i; j < len(l); j += workers {
				check(l[j])
			}
		})
	}
	w.Wait()
}

// words returns the words over at most four bytes in shortlex order.
func words(alphabet string, most int) []string {
	var l []string
	for w := range scope.Words(api.Scope{Alphabet: []byte(alphabet), Most: most}) {
		l = append(l, string(w))
	}
	return l
}

// random returns a fixed sequence of numbers.
func random() *rand.Rand { return rand.New(rand.NewPCG(9, 1)) }

// inputs returns byte slices of which most are numerals: all bytes by themselves and beside digits, short words, numbers
// in all bases, and long words.
func inputs() []string {
	l := []string{""}
	for x := range 256 {
		s := string([]byte{byte(x)})
		l = append(l, s, "1"+s, s+"1")
	}
	l = append(l, words("01", 6)...)
	l = append(l, words("29", 3)...)
	l = append(l, words("0aFg", 3)...)
	for n := range int64(120) {
		small, large := strconv.FormatInt(n, 16), strings.ToUpper(strconv.FormatInt(n, 16))
		l = append(l, strconv.FormatInt(n, 10), small, large, "0"+small, "00"+large, "0000"+small, "00000"+large)
	}
	r := random()
	for range 100 {
		w := strings.Repeat("0", r.IntN(3))
		for range r.IntN(12) {
			w += string("0123456789abcdefABCDEF"[r.IntN(22)])
		}
		l = append(l, w)
	}
	return append(l, strings.Repeat("0", 40), strings.Repeat("9", 41), "1"+strings.Repeat("0", 42), "0"+strings.Repeat("fF", 20))
}

// read returns the value of a text.
func read(r api.Rule, w string) (int, bool) { return numeral.Read(r, []byte(w)) }

// shown describes a value.
func shown(n int, ok bool) string {
	if !ok {
		return strconv.Itoa(n) + ", which is no value"
	}
	return strconv.Itoa(n)
}

// accepted returns the automaton of all texts of a rule.
func accepted(t *testing.T, r api.Rule) api.DFA {
	d, err := numeral.Language(r)
	if err != api.OK || !automaton.Valid(d) {
		t.Errorf("%v: %v, %v", r, d, err)
	}
	return d
}

// texts returns the automaton of the texts of a value.
func texts(t *testing.T, r api.Rule, n int) api.DFA {
	d, err := numeral.Texts(r, n)
	if err != api.OK || !automaton.Valid(d) {
		t.Errorf("%v and %d: %v, %v", r, n, d, err)
	}
	return d
}
