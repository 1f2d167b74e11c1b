package rewrite_test

import (
	"math/rand/v2"
	"strconv"
	"strings"
	"testing"

	"univocal/api"
	"univocal/rewrite"
	"univocal/scope"
	"univocal/transducer"
)

// op returns an operation.
func op(kind int, old, new string) api.Op {
	return api.Op{Kind: kind, Old: []byte(old), New: []byte(new)}
}

// simple returns an operation without Old and New.
func simple(kind int) api.Op { return api.Op{Kind: kind} }

// samples returns operations of all kinds, all of them valid.
func samples() []api.Op {
	l := []api.Op{
		simple(api.OpLower), simple(api.OpUpper), simple(api.OpPercent), simple(api.OpPercentLax),
		op(api.OpDrop, "a", ""), op(api.OpDrop, "ab", ""), op(api.OpDrop, "aa", ""), op(api.OpDrop, "%\x00\xffABCDE", ""),
		op(api.OpSqueeze, "a", ""), op(api.OpSqueeze, "%", ""), op(api.OpSqueeze, "\x00", ""), op(api.OpSqueeze, "\xff", ""),
	}
	for _, old := range []string{"a", "ab", "aa", "aab", "aba", "aaaa", "abab", "abac", "aaab", "%a4", "\xff\x00"} {
		for _, new := range []string{"", "b", "a", "aa", "abba", "%41", "\x00"} {
			l = append(l, op(api.OpReplaceFirst, old, new), op(api.OpReplaceAll, old, new))
		}
	}
	return l
}

// invalid returns operations that are not valid.
func invalid() map[string]api.Op {
	l := map[string]api.Op{"nothing": {}}
	for _, kind := range []int{-1 << 63, -3, -1, 0, 9, 10, 1 << 32, 1<<32 + 1, 1<<63 - 1} {
		for _, old := range []string{"", "a"} {
			l["kind "+strconv.Itoa(kind)+" with Old "+old] = op(kind, old, "")
		}
	}
	for kind, most := range []int{api.OpLower: 0, api.OpUpper: 0, api.OpPercent: 0, api.OpPercentLax: 0, api.OpReplaceFirst: 4, api.OpReplaceAll: 4, api.OpDrop: 8, api.OpSqueeze: 1} {
		if kind == 0 {
			continue
		}
		what := "kind " + strconv.Itoa(kind) + " with "
		least := strings.Repeat("a", min(most, 1))
		l[what+"long Old"] = op(kind, strings.Repeat("a", most+1), "")
		l[what+"very long Old"] = op(kind, strings.Repeat("ab", 3000), "")
		if most > 0 {
			l[what+"empty Old"] = simple(kind)
		}
		if kind == api.OpReplaceFirst || kind == api.OpReplaceAll {
			l[what+"long New"] = op(kind, least, "abcde")
			l[what+"New, but no Old"] = op(kind, "", "b")
		} else {
			l[what+"New"] = op(kind, least, "b")
			l[what+"long New"] = op(kind, least, "abcde")
		}
	}
	return l
}

// words returns the words over at most four bytes in increasing order.
func words(alphabet string, most int) []string {
	var l []string
	for w := range scope.Words(api.Scope{Alphabet: []byte(alphabet), Most: most}) {
		l = append(l, string(w))
	}
	return l
}

// numbers returns a fixed sequence of numbers.
func numbers() *rand.Rand { return rand.New(rand.NewPCG(8, 1)) }

// word returns a word of at most most bytes, most of which are from a text.
func word(r *rand.Rand, text string, most int) string {
	var w []byte
	for range r.IntN(most + 1) {
		if i := r.IntN(len(text) + 1); i < len(text) {
			w = append(w, text[i])
		} else {
			w = append(w, byte(r.IntN(256)))
		}
	}
	return string(w)
}

// inputs returns words that matter to an operation: all short ones over some of its bytes, and longer ones.
func inputs(o api.Op) []string {
	l := []string{""}
	for x := range 256 {
		s := string([]byte{byte(x)})
		l = append(l, s, s+s, "%"+s, "%4"+s, "%"+s+"4", "%%"+s, "%a%"+s, string(o.Old)+s, s+string(o.Old), string(o.Old)+s+string(o.Old))
	}
	for _, alphabet := range []string{"abc", "%4AF", "%4g", "\x00\xff"} {
		l = append(l, words(alphabet, 5)...)
	}
	r := numbers()
	for range 300 {
		l = append(l, word(r, "aabbc%%4\x00\xff"+string(o.Old)+string(o.New), 30))
	}
	return l
}

// done returns the result of an operation.
func done(o api.Op, w string) (string, bool) {
	b, ok := rewrite.Do(o, []byte(w))
	return string(b), ok
}

// did returns the result of an operation that must not reject.
func did(t *testing.T, o api.Op, w string) string {
	t.Helper()
	s, ok := done(o, w)
	if !ok {
		t.Fatalf("%v rejects %q", o, w)
	}
	return s
}

// machine returns the transducer of an operation, which has to be valid.
func machine(t *testing.T, o api.Op) api.Transducer {
	t.Helper()
	m, err := rewrite.Machine(o)
	if err != api.OK || !transducer.Valid(m) {
		t.Fatalf("%v: %v, %v", o, m, err)
	}
	return m
}

// text describes a result.
func text(s string, ok bool) string {
	if !ok {
		return "rejected"
	}
	return strconv.Quote(s)
}
