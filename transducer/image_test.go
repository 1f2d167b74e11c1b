package transducer_test

import (
	"testing"

	"univocal/api"
	"univocal/automaton"
	"univocal/transducer"
)

// P7.1, G4: the chapter's example.
func TestImageExample(t *testing.T) {
	d, err := automaton.Or(wordOf(t, "a"), wordOf(t, "bb"))
	d, err = transducer.Image(example(), built(t, d, err))
	if !same(built(t, d, err), wordOf(t, "bb!")) {
		t.Errorf("%v", d)
	}
}

// P7.1, G4: the image is the canonical automaton of the subset construction that the chapter describes, or ErrBig.
func TestImage(t *testing.T) {
	l := automata(40)
	big := 0
	for i, m := range samples(150) {
		d := l[i*3%len(l)]
		r, err := transducer.Image(m, d)
		check(t, r, err, images(m, d))
		if err == api.ErrBig {
			big++
		}
	}
	if big == 0 || big > 50 {
		t.Errorf("%d images are too large", big)
	}
}

// P7.4: the output of every word of a language is in the image, and every word of the image is the output of some word.
func TestImageWords(t *testing.T) {
	l := automata(40)
	for i, m := range samples(150) {
		d := l[i*3%len(l)]
		r, err := transducer.Image(m, d)
		if err != api.OK {
			continue
		}
		outputs := map[string]bool{}
		for _, w := range words("abc", 5) {
			if out, ok := run(m, w); ok && accepts(d, w) {
				outputs[out] = true
				if !automaton.Accepts(r, []byte(out)) {
					t.Fatalf("%v, %v: %q, the output for %q, is not in the image", m, d, out, w)
				}
			}
		}
		for _, out := range words("abc\xff", 3) {
			if outputs[out] || !automaton.Accepts(r, []byte(out)) {
				continue
			}
			// The words with this output are a language that has to meet d.
			p, err := transducer.Preimage(m, wordOf(t, out))
			p, err = automaton.And(built(t, p, err), d)
			if w, some := automaton.Least(built(t, p, err)); !some {
				t.Fatalf("%v, %v: %q is the output of no word (%q)", m, d, out, w)
			}
		}
	}
}

// P7.4: the image is not empty if and only if the language meets the domain; its preimage contains what meets it.
func TestImageDomain(t *testing.T) {
	l := automata(40)
	for i, m := range samples(100) {
		d := l[i*3%len(l)]
		r, err := transducer.Image(m, d)
		if err != api.OK {
			continue
		}
		domain, err := transducer.Domain(m)
		meet, err := automaton.And(built(t, domain, err), d)
		if same(built(t, meet, err), none) != same(r, none) {
			t.Fatalf("%v, %v: the image is %v", m, d, r)
		}
		p, err := transducer.Preimage(m, r)
		rest, err := automaton.Minus(meet, built(t, p, err))
		if !same(built(t, rest, err), none) {
			t.Fatalf("%v, %v: the preimage of the image leaves out %v", m, d, rest)
		}
	}
}

// single returns the transducer with one state that writes an output for the bytes of a class, and has no other moves.
func single(c api.Class, out string) api.Transducer {
	rest := all
	for i := range c {
		rest[i] &^= c[i]
	}
	return api.Transducer{Classes: []api.Class{c, rest}, Moves: [][]api.Move{{to(0, out), no}}, Final: []bool{true}, Ends: [][]byte{nil}}
}

// first returns the class of the first n bytes.
func first(n int) api.Class {
	var c api.Class
	for b := range n {
		add(&c, b)
	}
	return c
}

// P7.1, G4: the subset construction may have 4096 states. The states inside of outputs are different ones for each pair and
// each byte: after a copy that is not the last piece, they are as many sets.
func TestImageLimit(t *testing.T) {
	dying := without(counter("a", 64), "c")
	// All other states lead to the last one, which has no moves.
	halting := counter("a", 64)
	for p := range halting.Moves {
		halting.Moves[p] = []api.Move{to(p, "."), to((p+1)%63, "."), to(63, "x")}
	}
	halting.Moves[63] = []api.Move{no, no, no}
	halting.Classes = partition("a", "x")
	// Two states are reached at once, in both orders.
	twins := counter("a", 64)
	for p := range twins.Moves {
		twins.Moves[p] = []api.Move{to(p^1, "."), to((p+2)%64, "."), to(p^1, ""), no}
	}
	twins.Classes = partition("a", "e", "c")
	same64 := cycle("b", 64)
	for q := range same64.Accept {
		same64.Accept[q] = true
	}
	for _, c := range []struct {
		what string
		t    api.Transducer
		d    api.DFA
		err  api.Errno
	}{
		{"4096 pairs", endless(counter("a", 64)), cycle("b", 64), api.OK},
		{"4096 pairs and no states", endless(dying), cycle("b", 64), api.ErrBig},
		{"63 * 64 pairs and no states", endless(dying), cycle("b", 63), api.OK},
		{"64 pairs of the canonical automaton and no states", endless(dying), same64, api.OK},
		{"32 * 64 times two pairs and no states", endless(twins), cycle("b", 64), api.OK},
		{"63 * 64 pairs, 64 pairs without moves and no states", endless(halting), cycle("b", 64), api.ErrBig},
		{"63 * 63 pairs, 63 pairs without moves and no states", endless(halting), cycle("b", 63), api.OK},
		{"32 * 127 pairs and inner states, no states", endless(single(first(127), ".x")), cycle("", 32), api.ErrBig},
		{"39 * 105 pairs and inner states, no states", endless(single(first(104), ".x")), cycle("", 39), api.OK},
		{"39 * 106 pairs and inner states, no states", endless(single(first(105), ".x")), cycle("", 39), api.ErrBig},
		{"15 * 256 pairs and inner states, no states", endless(single(first(255), ".x")), cycle("", 15), api.OK},
		{"16 * 256 pairs and inner states, no states", endless(single(first(255), ".x")), cycle("", 16), api.ErrBig},
		{"two inner states for each byte", endless(single(first(255), ".xy")), cycle("", 8), api.OK},
		{"two inner states for each byte and too many pairs", endless(single(first(255), ".xy")), cycle("", 9), api.ErrBig},
		{"all inner states at once", endless(single(first(255), "x.")), cycle("", 64), api.OK},
		{"no inner states", endless(single(first(255), ".")), cycle("", 64), api.OK},
		{"nothing written", endless(single(first(255), "")), cycle("", 64), api.OK},
		{"eight bytes", endless(single(first(255), "xxxxxxxx")), cycle("", 64), api.OK},
	} {
		r, err := transducer.Image(c.t, c.d)
		if err != c.err || err == api.OK && !same(r, none) || err != api.OK && !zero(r) {
			t.Errorf("%s: %v, %v", c.what, r, err)
		}
	}
}

// P7.1, G4: the states inside of ends are different ones for each pair, and up to 4096 sets are allowed: here one for each of
// n * m pairs, n * 7 after 1 to 7 bytes of the end for each accepting state, and those of the accepting state and of no states.
func TestImageEnds(t *testing.T) {
	for _, c := range []struct {
		n, m, accepting int
		err             api.Errno
	}{{46, 54, 5, api.OK}, {45, 49, 6, api.ErrBig}, {63, 51, 2, api.ErrBig}, {64, 55, 1, api.OK}, {46, 54, 6, api.ErrBig}, {1, 55, 9, api.OK}, {1, 56, 9, api.ErrBig}} {
		m := without(counter("a", c.n), "cdefghij")
		for p := range m.Ends {
			m.Ends[p] = []byte("cdefghij")
		}
		d := cycle("b", c.m)
		for q := range c.accepting {
			d.Accept[q] = true
		}
		r, err := transducer.Image(m, d)
		if err != c.err || err != api.OK && !zero(r) {
			t.Errorf("%d * %d pairs: %v, %v", c.n, c.m, r, err)
			continue
		}
		if err != api.OK {
			continue
		}
		if len(r.Next) != c.m+9 {
			t.Errorf("%d * %d pairs: %d states", c.n, c.m, len(r.Next))
		}
		for _, w := range words("ab", 9) {
			for _, end := range []string{"", "cdefghi", "cdefghij", "cdefghijb"} {
				if automaton.Accepts(r, []byte(w+end)) != (end == "cdefghij" && accepts(d, w)) {
					t.Fatalf("%d * %d pairs: %q is wrong", c.n, c.m, w+end)
				}
			}
		}
	}
}

// P7.1, G4: outputs with very many beginnings, of which few are reached.
func TestImageLong(t *testing.T) {
	m := api.Transducer{Classes: partition("a", "b")}
	for p := range 64 {
		m.Moves = append(m.Moves, []api.Move{to(p, ".xxxxx"), to(p, ".xxxxx"), to(p, ".xxxxx")})
		m.Final = append(m.Final, p == 63)
		m.Ends = append(m.Ends, nil)
	}
	m.Moves[0] = []api.Move{no, to(63, ""), no}
	m.Moves[63] = []api.Move{no, to(63, ".xxxxx"), to(63, ".xxxxy")}
	d := cycle("a", 3)
	r, err := transducer.Image(m, d)
	check(t, r, err, images(m, d))
	for w, want := range map[string]bool{"": false, "axxxxx": false, "axxxxxaxxxxx": true, "axxxxxbxxxxyaxxxxx": true, "axxxxxbxxxxxaxxxxx": false} {
		if automaton.Accepts(r, []byte(w)) != want {
			t.Errorf("%q is wrong", w)
		}
	}
}

// P7.1, G4: sets of states without output, of an automaton that is not canonical.
func TestImageErasing(t *testing.T) {
	m := with(counter("a", 3), 0, 1, to(1, ""))
	m = with(m, 1, 1, to(2, ""))
	m = with(m, 2, 1, to(0, ""))
	d := cycle("ab", 4)
	d.Accept[2] = true
	// The canonical automaton counts modulo 2.
	r, err := transducer.Image(m, d)
	check(t, r, err, images(m, d))
	want := api.DFA{Classes: partition("a"), Next: [][]int{{0, 1}, {1, 1}}, Accept: []bool{true, false}}
	if !same(built(t, r, err), want) {
		t.Errorf("%v", r)
	}
}

// P7.1, G4: a result has at most 64 states.
func TestImageBig(t *testing.T) {
	for n, err := range map[int]api.Errno{63: api.OK, 64: api.ErrBig} {
		// A further state is reached by the byte that is never written.
		r, fails := transducer.Image(without(counter("a", 1), "c"), cycle("b", n))
		if fails != err || err == api.OK && len(r.Next) != 64 || err != api.OK && !zero(r) {
			t.Errorf("%d states: %v, %v", n, r, fails)
		}
	}
	r, err := transducer.Image(counter("a", 1), cycle("b", 64))
	if !same(built(t, r, err), cycle("b", 64)) {
		t.Errorf("copies: %v", r)
	}
}
