package regex_test

import (
	"slices"
	"testing"

	"univocal/api"
	"univocal/regex"
)

// numbers is a fixed sequence of numbers.
type numbers uint64

func (s *numbers) next(n int) int {
	x := uint64(*s)
	x ^= x << 13
	x ^= x >> 7
	x ^= x << 17
	*s = numbers(x)
	return int(x >> 33 % uint64(n))
}

func sequence() *numbers {
	s := numbers(88172645463325252)
	return &s
}

// classOf builds the class of the bytes of a string from its definition.
func classOf(s string) api.Class {
	var c api.Class
	for i := range len(s) {
		c[s[i]/64] |= 1 << (s[i] % 64)
	}
	return c
}

func has(c api.Class, b byte) bool { return c[b/64]&(1<<(b%64)) != 0 }

var allBytes = api.Class{1<<64 - 1, 1<<64 - 1, 1<<64 - 1, 1<<64 - 1}

func node(kind, l, r int) api.RegexNode { return api.RegexNode{Kind: kind, L: l, R: r} }

func byteOf(s string) api.RegexNode { return api.RegexNode{Kind: api.RxClass, C: classOf(s)} }

func repeat(l, least, most int) api.RegexNode {
	return api.RegexNode{Kind: api.RxRepeat, L: l, Min: least, Max: most}
}

// join returns the expression with the operands x and y (or only x if y is nil) under the node n, in postorder.
func join(x, y api.Regex, n api.RegexNode) api.Regex {
	l := slices.Clone(x)
	n.L = len(x) - 1
	for _, m := range y {
		switch m.Kind {
		case api.RxConcat, api.RxAlt, api.RxAnd:
			m.R += len(x)
			m.L += len(x)
		case api.RxNot, api.RxRepeat:
			m.L += len(x)
		}
		l = append(l, m)
	}
	if y != nil {
		n.R = len(l) - 1
	}
	return append(l, n)
}

func concat(x, y api.Regex) api.Regex { return join(x, y, node(api.RxConcat, 0, 0)) }
func alt(x, y api.Regex) api.Regex    { return join(x, y, node(api.RxAlt, 0, 0)) }
func and(x, y api.Regex) api.Regex    { return join(x, y, node(api.RxAnd, 0, 0)) }
func not(x api.Regex) api.Regex       { return join(x, nil, node(api.RxNot, 0, 0)) }
func times(x api.Regex, least, most int) api.Regex {
	return join(x, nil, repeat(0, least, most))
}

var bounds = [][2]int{{0, 0}, {0, 1}, {0, 2}, {0, -1}, {1, 1}, {1, 3}, {1, -1}, {2, 2}, {2, 4}, {3, -1}, {0, 16}, {2, 16}, {16, 16}, {16, -1}}

// tree returns an expression with about n nodes, in postorder.
func tree(s *numbers, n int) api.Regex {
	if n <= 1 {
		leaves := []api.RegexNode{node(api.RxNone, 0, 0), node(api.RxEmpty, 0, 0), byteOf("a"), byteOf("b"), byteOf("ab"),
			byteOf("a"), byteOf("b"), byteOf(""), byteOf("-*~"), {Kind: api.RxClass, C: allBytes}}
		return api.Regex{leaves[s.next(len(leaves))]}
	}
	left := 1 + s.next(n-1)
	switch s.next(8) {
	case 0, 1, 2:
		return concat(tree(s, left), tree(s, n-1-left))
	case 3, 4:
		return alt(tree(s, left), tree(s, n-1-left))
	case 5:
		return and(tree(s, left), tree(s, n-1-left))
	case 6:
		return not(tree(s, n-1))
	}
	b := bounds[s.next(len(bounds))]
	return times(tree(s, n-1), b[0], b[1])
}

// shuffled returns the same tree with its nodes in another order in which operands come first.
func shuffled(s *numbers, x api.Regex) api.Regex {
	at := make([]int, len(x))
	for i := range at {
		at[i] = -1
	}
	var l api.Regex
	for len(l) < len(x) {
		i := s.next(len(x))
		n := x[i]
		if at[i] >= 0 || slices.ContainsFunc(operands(n), func(j int) bool { return at[j] < 0 }) {
			continue
		}
		switch len(operands(n)) {
		case 2:
			n.L, n.R = at[n.L], at[n.R]
		case 1:
			n.L = at[n.L]
		}
		at[i] = len(l)
		l = append(l, n)
	}
	return l
}

func operands(n api.RegexNode) []int {
	switch n.Kind {
	case api.RxConcat, api.RxAlt, api.RxAnd:
		return []int{n.L, n.R}
	case api.RxNot, api.RxRepeat:
		return []int{n.L}
	}
	return nil
}

// inLanguage follows the definition of the language of node i, by trying all ways to split w.
func inLanguage(x api.Regex, i int, w string) bool {
	n := x[i]
	switch n.Kind {
	case api.RxEmpty:
		return w == ""
	case api.RxClass:
		return len(w) == 1 && has(n.C, w[0])
	case api.RxConcat:
		for k := range len(w) + 1 {
			if inLanguage(x, n.L, w[:k]) && inLanguage(x, n.R, w[k:]) {
				return true
			}
		}
	case api.RxAlt:
		return inLanguage(x, n.L, w) || inLanguage(x, n.R, w)
	case api.RxAnd:
		return inLanguage(x, n.L, w) && inLanguage(x, n.R, w)
	case api.RxNot:
		return !inLanguage(x, n.L, w)
	case api.RxRepeat:
		least := n.Min
		if inLanguage(x, n.L, "") {
			// Empty words make up for the words that are missing.
			least = 0
		}
		return inWords(x, n.L, least, n.Max, w)
	}
	return false
}

// inWords reports whether w consists of least to most words of node i that are not empty.
func inWords(x api.Regex, i, least, most int, w string) bool {
	if w == "" {
		return least == 0
	}
	if most == 0 {
		return false
	}
	for k := 1; k <= len(w); k++ {
		if inLanguage(x, i, w[:k]) && inWords(x, i, max(least-1, 0), max(most-1, -1), w[k:]) {
			return true
		}
	}
	return false
}

// words returns all words over the alphabet of at most n bytes.
func words(alphabet string, n int) []string {
	l := []string{""}
	for from := 0; n > 0; n-- {
		to := len(l)
		for ; from < to; from++ {
			for i := range len(alphabet) {
				l = append(l, l[from]+alphabet[i:i+1])
			}
		}
	}
	return l
}

// parsed returns the expression of a text that has to be right.
func parsed(t *testing.T, s string) api.Regex {
	t.Helper()
	x, at, err := regex.Parse(s)
	if err != api.OK || at != 0 {
		t.Fatalf("Parse(%q): %d, %v", s, at, err)
	}
	return x
}

// sameWords fails unless two expressions match the same of the words.
func sameWords(t *testing.T, what string, x, y api.Regex, l []string) {
	t.Helper()
	for _, w := range l {
		if regex.Match(x, []byte(w)) != regex.Match(y, []byte(w)) {
			t.Fatalf("%s: %v and %v differ in %q", what, x, y, w)
		}
	}
}
