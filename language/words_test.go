package language_test

import (
	"bytes"
	"math/big"
	"slices"
	"testing"

	"univocal/api"
	"univocal/automaton"
	"univocal/language"
)

func count(t *testing.T, d api.DFA, n int) int {
	t.Helper()
	c, err := language.Count(d, n)
	if err != api.OK {
		t.Fatalf("Count of %v, %d bytes: %v", d, n, err)
	}
	return c
}

func list(t *testing.T, d api.DFA, most int) [][]byte {
	t.Helper()
	l, err := language.List(d, most)
	if err != api.OK {
		t.Fatalf("List of %v, %d bytes: %v", d, most, err)
	}
	return l
}

// sums returns the numbers of the words of 0 to n bytes that d accepts, by the states that they lead to.
func sums(d api.DFA, n int) []*big.Int {
	to := make([]*big.Int, len(d.Next))
	for q := range to {
		to[q] = new(big.Int)
	}
	to[0].SetInt64(1)
	var l []*big.Int
	for range n + 1 {
		sum := new(big.Int)
		longer := make([]*big.Int, len(to))
		for q := range to {
			longer[q] = new(big.Int)
			if d.Accept[q] {
				sum.Add(sum, to[q])
			}
		}
		for q := range to {
			for b := range 256 {
				longer[target(d, q, b)].Add(longer[target(d, q, b)], to[q])
			}
		}
		l = append(l, sum)
		to = longer
	}
	return l
}

// P4.1, D5: Count returns the number of words of every length from 0 to 64, up to 2^40.
func TestCount(t *testing.T) {
	l := samples(t, 30, 7)
	for _, text := range []string{
		"[ab]*", "[a-h]*", "(a|bb)*", "(.a)*", "(a*b){3,3}", "[ab]*a[ab]{3,3}", circle, "a.{5,5}", "a{16,16}{3,3}a{14,14}",
		"(a.{3,3})*", "(ab|[^c]a)*", "[a-h]{4,9}", "a*|b.{2,2}", "[ab]{16,16}{2,2}[ab]{0,8}", "(abc)*",
	} {
		l = append(l, built(t, text))
	}
	most := big.NewInt(1 << 40)
	for _, d := range l {
		for n, want := range sums(d, 64) {
			c, err := language.Count(d, n)
			if want.Cmp(most) > 0 {
				if err != api.ErrBig || c != 0 {
					t.Fatalf("%v, %d bytes: %d, %v for %v words", d, n, c, err, want)
				}
			} else if err != api.OK || int64(c) != want.Int64() {
				t.Fatalf("%v, %d bytes: %d, %v, want %v", d, n, c, err, want)
			}
		}
	}
}

// P4.1, D5: the chapter's examples, the greatest number and the numbers behind it.
func TestCountExamples(t *testing.T) {
	d := built(t, "ab|abc")
	for n := range 65 {
		want := 0
		if n == 2 || n == 3 {
			want = 1
		}
		if c := count(t, d, n); c != want {
			t.Errorf("ab and abc: %d words of %d bytes", c, n)
		}
	}
	every := built(t, ".*")
	for n, want := range map[int]int{0: 1, 1: 256, 2: 65536, 5: 1 << 40} {
		if c := count(t, every, n); c != want {
			t.Errorf("%d words of %d bytes", c, n)
		}
	}
	for n := 6; n <= 64; n++ {
		if c, err := language.Count(every, n); err != api.ErrBig || c != 0 {
			t.Errorf("all words of %d bytes: %d, %v", n, c, err)
		}
	}
	if c := count(t, built(t, "a.{5,5}"), 6); c != 1<<40 {
		t.Errorf("%d words, want 2^40", c)
	}
	if c, err := language.Count(built(t, "a.{5,5}|bbbbbb"), 6); err != api.ErrBig || c != 0 {
		t.Errorf("2^40 + 1 words: %d, %v", c, err)
	}
	if c := count(t, built(t, "[ab]{16,16}{2,2}[ab]{8,8}"), 40); c != 1<<40 {
		t.Errorf("%d words of 40 bytes, want 2^40", c)
	}
}

// P4.1, D5: words that are not accepted do not count, however many there are.
func TestCountDead(t *testing.T) {
	w, _ := automaton.Word(make([]byte, 62))
	if c := count(t, w, 62); c != 1 {
		t.Errorf("one word of 62 bytes: %d", c)
	}
	if c := count(t, built(t, "~(.*)|a*b"), 64); c != 1 {
		t.Errorf("one word of 64 bytes: %d", c)
	}
	if c := count(t, built(t, "!"), 64); c != 0 {
		t.Errorf("no word: %d", c)
	}
	// All words of an even length, of which there are many before and after.
	d := built(t, "(..)*")
	for n := 1; n < 64; n += 2 {
		if c := count(t, d, n); c != 0 {
			t.Errorf("%d even words of %d bytes", c, n)
		}
	}
}

// P4.1, D5, D6: arguments that are not valid; the range of the length is that of the function.
func TestWordErrors(t *testing.T) {
	every := built(t, ".*")
	for _, n := range []int{-1, 65, 1 << 40, -1 << 63} {
		if c, err := language.Count(every, n); err != api.ErrArg || c != 0 {
			t.Errorf("Count of %d bytes: %d, %v", n, c, err)
		}
	}
	none := built(t, "!")
	for _, n := range []int{-1, 9, 64, 1 << 40, -1 << 63} {
		for _, d := range []api.DFA{every, none} {
			if l, err := language.List(d, n); err != api.ErrArg || len(l) != 0 {
				t.Errorf("List of %d bytes: %d words, %v", n, len(l), err)
			}
		}
	}
	for i, d := range invalid() {
		for _, n := range []int{-1, 0, 2, 9, 65} {
			if c, err := language.Count(d, n); err != api.ErrArg || c != 0 {
				t.Errorf("Count of %d, %d bytes: %d, %v", i, n, c, err)
			}
			if l, err := language.List(d, n); err != api.ErrArg || len(l) != 0 {
				t.Errorf("List of %d, %d bytes: %v, %v", i, n, l, err)
			}
		}
	}
}

// P4.7: the counts of a language and of its complement add up to 256^n.
func TestCountComplement(t *testing.T) {
	for _, d := range samples(t, 80, 6) {
		n, _ := automaton.Not(d)
		power := 1
		for k := range 6 {
			if sum := count(t, d, k) + count(t, n, k); sum != power {
				t.Fatalf("%v: %d words of %d bytes in all", d, sum, k)
			}
			power *= 256
		}
	}
}

// P4.7: the counts of a union and an intersection add up to those of both languages.
func TestCountUnion(t *testing.T) {
	s := sequence()
	l := samples(t, 80, 6)
	for _, a := range l {
		b := l[s.next(len(l))]
		or, _ := automaton.Or(a, b)
		and, _ := automaton.And(a, b)
		for k := range 6 {
			if x, y := count(t, or, k)+count(t, and, k), count(t, a, k)+count(t, b, k); x != y {
				t.Fatalf("%v and %v: %d and %d words of %d bytes", a, b, x, y, k)
			}
		}
	}
}

// P4.1, D6, P4.8: List returns exactly the accepted words in shortlex order, here those of languages over a few letters.
func TestList(t *testing.T) {
	const letters = "\x00ab\xff"
	within := built(t, `[\x00ab\xff]*`)
	all := words(letters, 5)
	for _, d := range samples(t, 60, 6) {
		d, _ := automaton.And(d, within)
		for most := range 6 {
			var want [][]byte
			for _, w := range all {
				if len(w) <= most && automaton.Accepts(d, []byte(w)) {
					want = append(want, []byte(w))
				}
			}
			if l := list(t, d, most); !sameWords(l, want) {
				t.Fatalf("%v, %d bytes: got %q, want %q", d, most, l, want)
			}
		}
	}
	// A small alphabet allows for the longest words.
	for _, text := range []string{"[ab]*", "(a|bb)*", "a*b*", "[ab]*a[ab]{3,3}", "a{8,8}", "a{9,9}", "b{7,9}"} {
		d := built(t, text)
		var want [][]byte
		for _, w := range words("ab", 8) {
			if automaton.Accepts(d, []byte(w)) {
				want = append(want, []byte(w))
			}
		}
		if l := list(t, d, 8); !sameWords(l, want) {
			t.Fatalf("%s: got %q, want %q", text, l, want)
		}
	}
}

// P4.1, D6: examples, among them all bytes, and words that are easily missed.
func TestListExamples(t *testing.T) {
	for _, c := range []struct {
		text string
		most int
		want []string
	}{
		{"ab|abc", 2, []string{"ab"}},
		{"ab|abc", 3, []string{"ab", "abc"}},
		{"ab|abc", 1, nil},
		{"!", 8, nil},
		{"()", 0, []string{""}},
		{".*", 0, []string{""}},
		{".+", 0, nil},
		{"(a|b|aa|ba|c)?", 2, []string{"", "a", "b", "c", "aa", "ba"}},
		{`[\xff\x00]a|b`, 2, []string{"b", "\x00a", "\xffa"}},
		{".{9,9}", 8, nil},
		{"abcdefgh|.{9,}", 8, []string{"abcdefgh"}},
	} {
		l := list(t, built(t, c.text), c.most)
		var got []string
		for _, w := range l {
			got = append(got, string(w))
		}
		if !slices.Equal(got, c.want) {
			t.Errorf("%s, %d bytes: got %q, want %q", c.text, c.most, got, c.want)
		}
	}
	l := list(t, built(t, ".*"), 1)
	if len(l) != 257 || len(l[0]) != 0 {
		t.Fatalf("all words of at most one byte: %d", len(l))
	}
	for b, w := range l[1:] {
		if string(w) != string([]byte{byte(b)}) {
			t.Errorf("byte %d: %v", b, w)
		}
	}
}

// P4.1, D6: 4096 words are the most; no number of words is too large to be noticed.
func TestListLimits(t *testing.T) {
	if l := list(t, built(t, "[a-h]{4,4}"), 4); len(l) != 4096 || string(l[0]) != "aaaa" || string(l[4095]) != "hhhh" {
		t.Errorf("%d words", len(l))
	}
	if l := list(t, built(t, "[a-h]{4,4}|.{5,}"), 4); len(l) != 4096 {
		t.Errorf("%d words of at most 4 bytes", len(l))
	}
	for _, c := range []struct {
		text string
		most int
	}{
		{"[a-h]{4,4}|i", 4}, {"[a-h]{4,4}|i", 8}, {"[a-h]{0,4}", 4}, {".*", 2}, {".{2,2}", 2}, {".*", 8}, {".{8,8}", 8}, {".{7,7}", 7},
		{".{4,4}", 8}, {"(.{4,4})*", 8},
	} {
		if l, err := language.List(built(t, c.text), c.most); err != api.ErrBig || len(l) != 0 {
			t.Errorf("%s, %d bytes: %d words, %v", c.text, c.most, len(l), err)
		}
	}
}

// P4.8: the words are accepted and strictly increase, the first one is the least word, and there are as many of each length
// as Count says.
func TestListLaws(t *testing.T) {
	listed := 0
	for _, d := range samples(t, 150, 7) {
		for most := range 4 {
			l, err := language.List(d, most)
			numbers := make([]int, most+1)
			for i, w := range l {
				if !automaton.Accepts(d, w) || len(w) > most {
					t.Fatalf("%v: %q is listed", d, w)
				}
				if i > 0 && (len(w) < len(l[i-1]) || len(w) == len(l[i-1]) && bytes.Compare(w, l[i-1]) <= 0) {
					t.Fatalf("%v: %q follows %q", d, w, l[i-1])
				}
				numbers[len(w)]++
			}
			total := 0
			for n, k := range numbers {
				c := count(t, d, n)
				if total += c; err == api.OK && c != k {
					t.Fatalf("%v: %d words of %d bytes, %d are listed", d, c, n, k)
				}
			}
			if want := total > api.MaxWords; err == api.OK && want || err != api.OK && (!want || err != api.ErrBig || len(l) != 0) {
				t.Fatalf("%v, %d bytes: %v for %d words", d, most, err, total)
			}
			least, some := automaton.Least(d)
			if err == api.OK && some && len(least) <= most && (len(l) == 0 || !bytes.Equal(l[0], least)) {
				t.Fatalf("%v: the list %q does not begin with %q", d, l, least)
			}
			listed += len(l)
		}
	}
	if listed < 10000 {
		t.Errorf("only %d words are listed", listed)
	}
}
