package automaton_test

import (
	"slices"
	"testing"

	"univocal/api"
	"univocal/automaton"
)

// P3.1, P3.8, C3: the automaton of a word is canonical and accepts only this word.
func TestWord(t *testing.T) {
	for _, w := range append(words("ab\x00\xff", 3), "a\x80a\x80a", "abcdefghijklmnopqrstuvwxyz", "\x00\x01\x02\x03", "\xff\xfe\xfd") {
		d := word(t, w)
		if len(d.Next) != len(w)+2 {
			t.Fatalf("%q: %d states", w, len(d.Next))
		}
		minimal(t, d)
		for _, v := range append(words("ab\x00\xff", 3), w, w+"a", w+w, "b"+w, w[len(w)/2:]) {
			if automaton.Accepts(d, []byte(v)) != (v == w) {
				t.Fatalf("the automaton of %q is wrong for %q", w, v)
			}
		}
	}
}

// P3.1, C3: the chapter's example.
func TestWordExample(t *testing.T) {
	if d := word(t, "ab"); !same(d, ab()) {
		t.Errorf("ab: %v", d)
	}
	if d := word(t, ""); !same(d, epsilon) {
		t.Errorf("the empty word: %v", d)
	}
	if d, err := automaton.Word([]byte{}); err != api.OK || !same(d, epsilon) {
		t.Errorf("the empty slice: %v, %v", d, err)
	}
}

// P3.1, C3: a word may have 62 bytes, but not more.
func TestWordLong(t *testing.T) {
	var w []byte
	for i := range 300 {
		w = append(w, byte(i*37))
	}
	for _, n := range []int{61, 62} {
		d, err := automaton.Word(w[:n])
		if valid(t, "Word", d, err); len(d.Next) != n+2 || len(d.Classes) != n+1 || !automaton.Accepts(d, w[:n]) {
			t.Errorf("%d bytes: %v", n, d)
		}
		minimal(t, d)
	}
	for _, n := range []int{63, 64, 300} {
		if d, err := automaton.Word(w[:n]); err != api.ErrBig || !zero(d) {
			t.Errorf("%d bytes: %v, %v", n, d, err)
		}
		if d, err := automaton.Word(make([]byte, n)); err != api.ErrBig || !zero(d) {
			t.Errorf("%d times the byte 0: %v, %v", n, d, err)
		}
	}
}

// P3.8: the concatenation of the automata of two words is the automaton of the concatenated word.
func TestWordConcat(t *testing.T) {
	l := append(words("ab", 2), "\x00\xff", "\xff\x00\x00", "abcabc", "ba\x80")
	for _, v := range l {
		for _, w := range l {
			if d := joined(t, word(t, v), word(t, w)); !same(d, word(t, v+w)) {
				t.Fatalf("%q and %q: %v", v, w, d)
			}
		}
	}
}

// P3.1, P3.7, C6: Least returns the least of the accepted words, which has fewer bytes than the automaton has states.
func TestLeast(t *testing.T) {
	found := 0
	for _, d := range append(samples(300), ab(), none, every, epsilon) {
		w, ok := automaton.Least(d)
		want, some := unfold(d).least()
		if string(w) != want || ok != some {
			t.Fatalf("%v: got %q, %v, want %q, %v", d, w, ok, want, some)
		}
		if ok && (!automaton.Accepts(d, w) || len(w) >= len(d.Next)) {
			t.Fatalf("%v: %q", d, w)
		}
		if len(w) > 1 {
			found++
		}
	}
	if found < 20 {
		t.Errorf("only %d words have two bytes or more", found)
	}
}

// P3.7: no less word is accepted.
func TestLeastWords(t *testing.T) {
	for _, d := range samples(100) {
		w, ok := automaton.Least(d)
		for _, v := range words(alphabet(d), 4) {
			less := len(v) < len(w) || len(v) == len(w) && v < string(w)
			if automaton.Accepts(d, []byte(v)) && (!ok || less) {
				t.Fatalf("%v accepts %q, but the least word is %q, %v", d, v, w, ok)
			}
		}
	}
}

// P3.1, C6: a least word may have 63 bytes; its bytes are the least ones of their classes.
func TestLeastLong(t *testing.T) {
	d := cycle(all, 64, 63)
	if w, ok := automaton.Least(d); !ok || !slices.Equal(w, make([]byte, 63)) {
		t.Errorf("63 bytes: %q, %v", w, ok)
	}
	d = cycle(besides("xy\x00"), 64, 63)
	if w, ok := automaton.Least(d); !ok || !slices.Equal(w, slices.Repeat([]byte{1}, 63)) {
		t.Errorf("63 times the byte 1: %q, %v", w, ok)
	}
	var long []byte
	for i := range 62 {
		long = append(long, byte(255-i*3))
	}
	if w, ok := automaton.Least(word(t, string(long))); !ok || !slices.Equal(w, long) {
		t.Errorf("62 bytes: %q, %v", w, ok)
	}
	// The classes are not in the order of their bytes, and the shorter word has the greater byte.
	d = api.DFA{Classes: []api.Class{classOf("c"), classOf("b"), besides("abc"), classOf("a")},
		Next: [][]int{{2, 3, 1, 3}, {1, 1, 1, 1}, {2, 2, 1, 1}, {1, 1, 1, 2}}, Accept: []bool{false, false, true, false}}
	if w, ok := automaton.Least(d); !ok || string(w) != "c" {
		t.Errorf("c: %q, %v", w, ok)
	}
	d.Next[0][0] = 1
	if w, ok := automaton.Least(d); !ok || string(w) != "aa" {
		t.Errorf("aa: %q, %v", w, ok)
	}
}

// P3.1, C6: Least and Apart report that there is no word.
func TestNoWord(t *testing.T) {
	if w, ok := automaton.Least(none); ok || len(w) != 0 {
		t.Errorf("no word: %q, %v", w, ok)
	}
	if w, ok := automaton.Least(every); !ok || len(w) != 0 {
		t.Errorf("the empty word: %q, %v", w, ok)
	}
	if w, ok := automaton.Apart(every, none); !ok || len(w) != 0 {
		t.Errorf("all words and none: %q, %v", w, ok)
	}
	for what, d := range invalid() {
		if w, ok := automaton.Least(d); ok || len(w) != 0 {
			t.Errorf("%s: %q, %v", what, w, ok)
		}
		for _, l := range [][2]api.DFA{{d, ab()}, {ab(), d}, {d, none}, {d, d}, {every, d}} {
			if w, ok := automaton.Apart(l[0], l[1]); ok || len(w) != 0 {
				t.Errorf("%s: %q, %v", what, w, ok)
			}
		}
	}
}

// P3.1, C6: Apart returns the least word that exactly one of two automata accepts.
func TestApart(t *testing.T) {
	pairs(200, func(a, b api.DFA) {
		differ := both(unfold(a), unfold(b), func(x, y bool) bool { return x != y })
		want, some := differ.least()
		for _, l := range [][2]api.DFA{{a, b}, {b, a}} {
			w, ok := automaton.Apart(l[0], l[1])
			if string(w) != want || ok != some {
				t.Fatalf("%v and %v: got %q, %v, want %q, %v", a, b, w, ok, want, some)
			}
		}
	})
	if w, ok := automaton.Apart(ab(), word(t, "a")); !ok || string(w) != "a" {
		t.Errorf("ab and a: %q, %v", w, ok)
	}
}

// P3.1, C6: the word may be longer than each automaton has states.
func TestApartLong(t *testing.T) {
	x, y := cycle(all, 64, 0), cycle(all, 64, 0)
	for q := range 63 {
		x.Accept[q], y.Accept[q] = q%7 == 0, q%7 == 0
	}
	y.Next[63][0] = 1
	y.Accept[63], x.Accept[63] = true, true
	want, some := both(unfold(x), unfold(y), func(a, b bool) bool { return a != b }).least()
	if w, ok := automaton.Apart(x, y); !ok || !some || string(w) != want || len(w) < 64 {
		t.Errorf("got %d bytes, %v, want %d, %v", len(w), ok, len(want), some)
	}
	// Counters modulo 64 and 63 agree on the lengths up to 62.
	x, y = cycle(all, 64, 0), cycle(all, 63, 0)
	if w, ok := automaton.Apart(x, y); !ok || len(w) != 63 {
		t.Errorf("counters modulo 64 and 63: %d bytes, %v", len(w), ok)
	}
}
