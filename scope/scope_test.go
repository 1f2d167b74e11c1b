package scope_test

import (
	"slices"
	"testing"

	"univocal/api"
	"univocal/scope"
)

// all returns the words of a scope.
func all(s api.Scope) []string {
	var l []string
	for w := range scope.Words(s) {
		l = append(l, string(w))
	}
	return l
}

// Check names what is wrong with a scope; it may have 4096 words.
func TestCheck(t *testing.T) {
	for _, c := range []struct {
		alphabet string
		most     int
		err      api.Errno
	}{
		{"", 0, api.ErrArg}, {"", 3, api.ErrArg}, {"abcde", 1, api.ErrArg}, {"aa", 1, api.ErrArg}, {"ba", 1, api.ErrArg},
		{"abdc", 8, api.ErrArg}, {"acbd", 0, api.ErrArg}, {"a", -1, api.ErrArg}, {"a", 9, api.ErrArg}, {"abcd", 9, api.ErrArg},
		{"a", 0, api.OK}, {"a", 8, api.OK}, {"\x00\xff", 8, api.OK}, {"abcd", 0, api.OK},
		{"abc", 7, api.OK}, {"abc", 8, api.ErrBig}, {"abcd", 5, api.OK}, {"abcd", 6, api.ErrBig}, {"abcd", 8, api.ErrBig},
	} {
		s := api.Scope{Alphabet: []byte(c.alphabet), Most: c.most}
		if err := scope.Check(s); err != c.err || scope.Valid(s) != (c.err != api.ErrArg) {
			t.Errorf("%q, %d: %v, %v", c.alphabet, c.most, err, scope.Valid(s))
		}
	}
}

// Size is the number of words, also if it is more than 4096.
func TestSize(t *testing.T) {
	for _, c := range []struct {
		alphabet string
		most     int
		want     int
	}{
		{"a", 0, 1}, {"abcd", 0, 1}, {"a", 8, 9}, {"ab", 3, 15}, {"\x00\xff", 8, 511}, {"abc", 7, 3280}, {"abc", 8, 9841}, {"abcd", 5, 1365}, {"abcd", 8, 87381},
	} {
		s := api.Scope{Alphabet: []byte(c.alphabet), Most: c.most}
		if n := scope.Size(s); n != c.want || len(all(s)) != c.want {
			t.Errorf("%q, %d: %d", c.alphabet, c.most, n)
		}
	}
}

// Words enumerates all words in shortlex order.
func TestWords(t *testing.T) {
	for _, c := range []struct {
		alphabet string
		most     int
		want     []string
	}{
		{"abc", 0, []string{""}},
		{"a", 3, []string{"", "a", "aa", "aaa"}},
		{"\x00\xff", 2, []string{"", "\x00", "\xff", "\x00\x00", "\x00\xff", "\xff\x00", "\xff\xff"}},
	} {
		if l := all(api.Scope{Alphabet: []byte(c.alphabet), Most: c.most}); !slices.Equal(l, c.want) {
			t.Errorf("%q, %d: %q", c.alphabet, c.most, l)
		}
	}
	l := all(api.Scope{Alphabet: []byte("abcd"), Most: 5})
	if len(l) != 1+4+16+64+256+1024 || !slices.IsSortedFunc(l, shortlex) || len(slices.Compact(l)) != len(l) {
		t.Errorf("%d words", len(l))
	}
}

// shortlex compares two words.
func shortlex(v, w string) int {
	if len(v) != len(w) {
		return len(v) - len(w)
	}
	if v < w {
		return -1
	}
	return 1
}

// Words stops when it is asked to, and its words can be changed.
func TestWordsUse(t *testing.T) {
	s := api.Scope{Alphabet: []byte("ab"), Most: 4}
	want := all(s)
	var l []string
	for w := range scope.Words(s) {
		l = append(l, string(w))
		for i := range w[:cap(w)] {
			w[:cap(w)][i] = 'x'
		}
		if len(l) == 20 {
			break
		}
	}
	if !slices.Equal(l, want[:20]) || string(s.Alphabet) != "ab" {
		t.Errorf("%q", l)
	}
}
