package transducer_test

import (
	"slices"
	"testing"

	"univocal/api"
	"univocal/transducer"
)

// composed returns the composition, which has to exist.
func composed(t *testing.T, m, u api.Transducer) api.Transducer {
	t.Helper()
	c, err := transducer.Compose(m, u)
	if err != api.OK || !transducer.Valid(c) {
		t.Fatalf("the composition of %v and %v: %v, %v", m, u, c, err)
	}
	return c
}

// nothing reports whether a transducer is the zero value.
func nothing(t api.Transducer) bool { return alike(t, api.Transducer{}) }

// P7.1, G5: the chapter's example.
func TestComposeExample(t *testing.T) {
	c := composed(t, example(), example())
	if out, ok := run(c, "a"); !ok || out != "bb!!" || len(c.Ends) != 1 || string(c.Ends[0]) != "!!" {
		t.Errorf("%s, %q", text(out, ok), c.Ends)
	}
}

// P7.1, P7.5, G5: the composition is the one that the chapter constructs, and its outputs are those of both machines.
func TestCompose(t *testing.T) {
	l := samples(200)
	s := sequence()
	for i := range 41 {
		l = append(l, s.transducer(1+i%3, 1+i%3, 5))
	}
	big := 0
	for i, m := range l {
		u := l[(i*11+5)%len(l)]
		c, err := transducer.Compose(m, u)
		want, fits := composition(m, u)
		if !fits {
			big++
			if err != api.ErrBig || !nothing(c) {
				t.Fatalf("%v and %v: %v, %v for too large a composition", m, u, c, err)
			}
			continue
		}
		if err != api.OK || !alike(c, want) || !transducer.Valid(c) {
			t.Fatalf("%v and %v: %v, %v, want %v", m, u, c, err, want)
		}
		for _, w := range words("abc\xff", 4) {
			between, some := run(m, w)
			var out string
			if some {
				out, some = run(u, between)
			}
			if got, ok := run(c, w); got != out || ok != some {
				t.Fatalf("%v and %v: %q leads to %s, want %s", m, u, w, text(got, ok), text(out, some))
			}
		}
	}
	if big == 0 || big > 60 {
		t.Errorf("%d compositions are too large", big)
	}
}

// P7.5: composition is associative: both ways have the same outputs.
func TestComposeAssociative(t *testing.T) {
	l := samples(200)
	for i, m := range l {
		u, v := l[(i*11+5)%len(l)], l[(i*7+2)%len(l)]
		mu, first := transducer.Compose(m, u)
		uv, second := transducer.Compose(u, v)
		if first != api.OK || second != api.OK {
			continue
		}
		left, first := transducer.Compose(mu, v)
		right, second := transducer.Compose(m, uv)
		if first != api.OK || second != api.OK {
			continue
		}
		if w, differ, err := transducer.Apart(left, right, api.Scope{Alphabet: []byte("abc\xff"), Most: 5}); differ || err != api.OK {
			t.Fatalf("%v, %v and %v: %q, %v", m, u, v, w, err)
		}
	}
}

// P7.5: preimages compose in the opposite order.
func TestComposePreimages(t *testing.T) {
	l, languages := samples(150), automata(20)
	for i, m := range l {
		u, d := l[(i*11+5)%len(l)], languages[i%len(languages)]
		c, err := transducer.Compose(m, u)
		if err != api.OK {
			continue
		}
		x, err := transducer.Preimage(c, d)
		built(t, x, err)
		y, err := transducer.Preimage(u, d)
		y, err = transducer.Preimage(m, built(t, y, err))
		if !same(x, built(t, y, err)) {
			t.Fatalf("%v, %v and %v: %v and %v", m, u, d, x, y)
		}
	}
}

// P7.1, G5: configurations are numbered in the order of a breadth-first search; those that are not reached are left out.
func TestComposeStates(t *testing.T) {
	m := api.Transducer{
		Classes: partition("b", "a"),
		Moves:   [][]api.Move{{to(0, ""), to(2, "."), to(1, "..")}, {to(1, "x"), to(2, "a"), no}, {to(0, "b"), no, to(2, "")}, {no, no, no}},
		Final:   []bool{true, false, true, true},
		Ends:    [][]byte{[]byte("ab"), nil, nil, nil},
	}
	u := api.Transducer{
		Classes: partition("a", "x"),
		Moves:   [][]api.Move{{to(1, "."), to(0, "<>"), no}, {to(1, ".."), to(0, "y."), to(1, "")}},
		Final:   []bool{true, true},
		Ends:    [][]byte{nil, []byte("!")},
	}
	want := api.Transducer{
		// The configurations are (0, 0), (1, 0), (2, 1), (2, 0) and (0, 1).
		Classes: []api.Class{besides("abx"), classOf("a"), classOf("b"), classOf("x")},
		Moves: [][]api.Move{
			{to(0, ""), to(1, "<><>"), to(2, "."), to(0, "")},
			{no, no, to(3, "<>"), no},
			{to(4, "bb"), to(2, ""), no, to(4, "bb")},
			{to(4, "b"), to(3, ""), no, to(4, "b")},
			// The copy of a copy copies, that of a byte is the byte.
			{to(4, ""), to(1, "y.<>"), to(2, ".."), to(4, "")},
		},
		Final: []bool{true, false, true, true, true},
		Ends:  [][]byte{[]byte("<>b!"), nil, []byte("!"), nil, []byte("yab!")},
	}
	if c := composed(t, m, u); !alike(c, want) {
		t.Errorf("%v, want %v", c, want)
	}
}

// writer returns a transducer with a single state that writes an output for every byte and has an end.
func writer(out, end string) api.Transducer {
	return api.Transducer{Classes: []api.Class{all}, Moves: [][]api.Move{{to(0, out)}}, Final: []bool{true}, Ends: [][]byte{[]byte(end)}}
}

// P7.1, G5: limits of states, pieces and ends.
func TestComposeLimits(t *testing.T) {
	stuck := with(writer("bbbb", ""), 0, 0, no)
	// After three bytes, nothing can be read any more.
	short := without(counter("a", 4), "b")
	for p := range short.Moves {
		short.Moves[p] = []api.Move{to(min(p+1, 3), "bbb"), to(min(p+1, 3), "bbb"), no}
	}
	short.Moves[3] = []api.Move{no, no, no}
	deaf := endless(writer("cccccccc", ""))
	for _, c := range []struct {
		what   string
		t, u   api.Transducer
		states int
	}{
		{"64 states", counter("a", 8), counter("b", 8), 64},
		{"64 states of one transducer", counter("a", 64), example(), 64},
		{"64 states of the other one", example(), counter("b", 64), 64},
		{"72 states", counter("a", 9), counter("b", 8), 0},
		{"65 states", counter("a", 13), counter("b", 5), 0},
		{"64 * 64 states", counter("a", 64), counter("b", 64), 0},
		{"few states are reached", counter("a", 64), counter("a", 64), 64},
		{"8 pieces", writer("..", ""), writer("a.a.", ""), 1},
		{"8 pieces of 8 copies", writer("........", ""), writer(".", ""), 1},
		{"9 pieces", writer("...", ""), writer("a.a", ""), 0},
		{"64 pieces", writer("........", ""), writer("........", ""), 0},
		{"no pieces", writer("........", ""), writer("", ""), 1},
		{"too many pieces before a missing move", writer("aaaa", ""), short, 1},
		{"a missing move", stuck, writer("cccccccc", ""), 1},
		{"an end of 8 bytes", writer("", "abcd"), writer("..", ""), 1},
		{"an end of 8 bytes by both", writer("", "abc"), writer("..", "yz"), 1},
		{"an end of 9 bytes", writer("", "abcd"), writer("..", "z"), 0},
		{"an end of 9 bytes while it is read", writer("", "abc"), writer("...", ""), 0},
		{"no end", writer("", "abcdefgh"), deaf, 1},
		{"an end that is not read", endless(writer("", "")), writer("", "12345678"), 1},
	} {
		r, err := transducer.Compose(c.t, c.u)
		if c.states == 0 && (err != api.ErrBig || !nothing(r)) || c.states > 0 && (err != api.OK || len(r.Moves) != c.states) {
			t.Errorf("%s: %v, %v", c.what, r, err)
		}
		literal, fits := composition(c.t, c.u)
		if fits != (c.states > 0) || !alike(literal, r) {
			t.Errorf("%s: %v, %v", c.what, literal, fits)
		}
	}
}

// P7.1, G5: arguments that are not valid, also if the others are too large.
func TestComposeInvalid(t *testing.T) {
	for what, m := range invalid() {
		for _, l := range [][2]api.Transducer{{m, example()}, {example(), m}, {m, m}, {counter("a", 64), m}, {m, writer("........", "12345678")}} {
			if c, err := transducer.Compose(l[0], l[1]); err != api.ErrArg || !nothing(c) {
				t.Errorf("%s: %v, %v", what, c, err)
			}
		}
	}
}

// P7.1, G5: classes are refined, whether or not the transducers need them.
func TestComposeClasses(t *testing.T) {
	m := api.Transducer{Classes: []api.Class{classOf("bd"), besides("bd")}, Moves: [][]api.Move{{to(0, "."), to(0, ".")}}, Final: []bool{true}, Ends: [][]byte{nil}}
	u := api.Transducer{Classes: []api.Class{besides("ab"), classOf("ab")}, Moves: [][]api.Move{{to(0, "."), to(0, ".")}}, Final: []bool{true}, Ends: [][]byte{nil}}
	c := composed(t, m, u)
	if !slices.Equal(c.Classes, []api.Class{besides("abd"), classOf("a"), classOf("b"), classOf("d")}) {
		t.Errorf("%v", c.Classes)
	}
	if c = composed(t, wide(0), wide(1)); len(c.Classes) != 256 || !alike(c, wide(1)) {
		t.Errorf("256 classes: %v", c)
	}
}
