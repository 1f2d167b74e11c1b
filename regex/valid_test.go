package regex_test

import (
	"slices"
	"testing"

	"univocal/api"
	"univocal/regex"
)

// comb returns a valid expression with n nodes; n is odd.
func comb(n int) api.Regex {
	x := api.Regex{byteOf("a")}
	for len(x) < n {
		x = concat(x, api.Regex{byteOf("b")})
	}
	return x
}

// P2.1, B1: valid expressions.
func TestValid(t *testing.T) {
	for i, x := range []api.Regex{
		{node(api.RxNone, 0, 0)},
		{node(api.RxEmpty, 0, 0)},
		{byteOf("")},
		{byteOf("a")},
		{{Kind: api.RxClass, C: allBytes}},
		{byteOf("a"), node(api.RxNot, 0, 0)},
		{byteOf("a"), byteOf("b"), node(api.RxConcat, 0, 1)},
		{byteOf("a"), byteOf("b"), node(api.RxConcat, 1, 0)},
		{byteOf("a"), byteOf("b"), node(api.RxAlt, 1, 0)},
		{byteOf("a"), byteOf("b"), node(api.RxAnd, 0, 1)},
		{byteOf("a"), repeat(0, 0, 0)},
		{byteOf("a"), repeat(0, 0, -1)},
		{byteOf("a"), repeat(0, 16, -1)},
		{byteOf("a"), repeat(0, 16, 16)},
		{byteOf("a"), byteOf("b"), node(api.RxNot, 0, 0), node(api.RxAlt, 2, 1)},
		comb(199),
		not(comb(199)),
	} {
		if err := regex.Valid(x); err != api.OK {
			t.Errorf("case %d: %v", i, err)
		}
	}
	s := sequence()
	for range 200 {
		x := shuffled(s, tree(s, 1+s.next(40)))
		if err := regex.Valid(x); err != api.OK {
			t.Fatalf("%v: %v", x, err)
		}
	}
}

// An invalid is an expression with its error.
type invalid struct {
	x    api.Regex
	want api.Errno
}

// invalids are expressions that are not valid, for each reason and in the order of the reasons.
var invalids = []invalid{
	{nil, api.ErrArg},
	{api.Regex{}, api.ErrArg},
	{comb(201), api.ErrBig},
	{append(comb(201), api.RegexNode{Kind: -1}), api.ErrBig},
	{slices.Repeat(api.Regex{{Kind: 99}}, 200), api.ErrArg},
	{slices.Repeat(api.Regex{{Kind: 99}}, 201), api.ErrBig},
	// Kinds.
	{api.Regex{{}}, api.ErrArg},
	{api.Regex{{Kind: -1}}, api.ErrArg},
	{api.Regex{{Kind: 9}}, api.ErrArg},
	{api.Regex{{Kind: 1<<63 - 1}}, api.ErrArg},
	// Operands.
	{api.Regex{node(api.RxNot, 0, 0)}, api.ErrArg},
	{api.Regex{node(api.RxConcat, 0, 0)}, api.ErrArg},
	{api.Regex{a, node(api.RxNot, -1, 0)}, api.ErrArg},
	{api.Regex{a, node(api.RxNot, 1, 0)}, api.ErrArg},
	{api.Regex{a, node(api.RxNot, 2, 0), node(api.RxNot, 0, 0)}, api.ErrArg},
	{api.Regex{a, b, node(api.RxConcat, -1, 1)}, api.ErrArg},
	{api.Regex{a, b, node(api.RxConcat, 0, -1)}, api.ErrArg},
	{api.Regex{a, b, node(api.RxAlt, 0, 2)}, api.ErrArg},
	{api.Regex{a, b, node(api.RxAnd, 2, 1)}, api.ErrArg},
	{api.Regex{a, repeat(-1, 0, 1)}, api.ErrArg},
	{api.Regex{a, repeat(1, 0, 1)}, api.ErrArg},
	{api.Regex{a, node(api.RxNot, -1<<63, 0)}, api.ErrArg},
	// The bounds of a repetition.
	{api.Regex{a, repeat(0, -1, 0)}, api.ErrArg},
	{api.Regex{a, repeat(0, -1, -1)}, api.ErrArg},
	{api.Regex{a, repeat(0, 0, -2)}, api.ErrArg},
	{api.Regex{a, repeat(0, 17, -2)}, api.ErrArg},
	{api.Regex{a, repeat(0, -1, 17)}, api.ErrArg},
	{api.Regex{a, repeat(0, 17, -1)}, api.ErrBig},
	{api.Regex{a, repeat(0, 0, 17)}, api.ErrBig},
	{api.Regex{a, repeat(0, 17, 17)}, api.ErrBig},
	{api.Regex{a, repeat(0, 17, 3)}, api.ErrBig},
	{api.Regex{a, repeat(0, 3, 2)}, api.ErrArg},
	{api.Regex{a, repeat(0, 1, 0)}, api.ErrArg},
	{api.Regex{a, repeat(1, 17, 17)}, api.ErrArg},
	// The first node that is wrong decides.
	{api.Regex{a, repeat(0, 17, 17), {Kind: 9}}, api.ErrBig},
	{api.Regex{a, repeat(0, 3, 2), repeat(1, 17, 17)}, api.ErrArg},
	{api.Regex{{Kind: 9}, repeat(0, 17, 17)}, api.ErrArg},
	// Not a tree.
	{api.Regex{a, b}, api.ErrArg},
	{api.Regex{a, node(api.RxConcat, 0, 0)}, api.ErrArg},
	{api.Regex{a, b, node(api.RxAlt, 0, 0)}, api.ErrArg},
	{api.Regex{a, b, node(api.RxNot, 0, 0)}, api.ErrArg},
	{api.Regex{a, node(api.RxNot, 0, 0), node(api.RxAlt, 0, 1)}, api.ErrArg},
	{api.Regex{a, a, repeat(0, 17, 17)}, api.ErrBig},
}

// P2.1, B1: expressions that are not valid, and the order of the errors.
func TestNotValid(t *testing.T) {
	for i, c := range invalids {
		if err := regex.Valid(c.x); err != c.want {
			t.Errorf("case %d: got %v, want %v", i, err, c.want)
		}
		if s, err := regex.Format(c.x); s != "" || err != c.want {
			t.Errorf("case %d: Format: %q, %v, want %v", i, s, err, c.want)
		}
		if regex.Nullable(c.x) || regex.Match(c.x, nil) || regex.Match(c.x, []byte("a")) {
			t.Errorf("case %d: an expression that is not valid matches", i)
		}
	}
}

// P2.1, B1: all fields that a kind does not have are zero.
func TestUnusedFields(t *testing.T) {
	used := map[int]string{api.RxNone: "", api.RxEmpty: "", api.RxClass: "C", api.RxConcat: "LR", api.RxAlt: "LR",
		api.RxAnd: "LR", api.RxNot: "L", api.RxRepeat: "Lmn"}
	set := map[string]func(n *api.RegexNode){
		"C": func(n *api.RegexNode) { n.C[3] = 1 << 63 },
		"L": func(n *api.RegexNode) { n.L = 1 },
		"R": func(n *api.RegexNode) { n.R = 1 },
		"m": func(n *api.RegexNode) { n.Min = 1 },
		"n": func(n *api.RegexNode) { n.Max = 1 },
	}
	for kind, fields := range used {
		for field, change := range set {
			// Nodes 0 and 1 are there for operands; the tree is not checked before the fields.
			n := node(kind, 0, 0)
			change(&n)
			last := repeat(0, 17, 17)
			want := api.ErrArg
			for i := range len(fields) {
				if fields[i:i+1] == field {
					want = api.ErrBig
				}
			}
			if kind == api.RxRepeat && field == "m" {
				n.Max = 1
			}
			if err := regex.Valid(api.Regex{byteOf("a"), byteOf("b"), n, last}); err != want {
				t.Errorf("kind %d with the field %s: got %v, want %v", kind, field, err, want)
			}
		}
	}
}
