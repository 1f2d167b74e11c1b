package transducer_test

import (
	"slices"
	"strings"
	"testing"

	"univocal/api"
	"univocal/automaton"
	"univocal/transducer"
)

// invalid returns transducers that are not valid.
func invalid() map[string]api.Transducer {
	change := func(f func(t *api.Transducer)) api.Transducer {
		t := counter("a", 3)
		t.Ends[1] = []byte("x")
		f(&t)
		return t
	}
	set := func(m api.Move) api.Transducer {
		return change(func(t *api.Transducer) { t.Moves[2][1] = m })
	}
	return map[string]api.Transducer{
		"nothing":                  {},
		"no classes":               change(func(t *api.Transducer) { t.Classes, t.Moves = nil, [][]api.Move{nil, nil, nil} }),
		"no states":                change(func(t *api.Transducer) { t.Moves, t.Final, t.Ends = nil, nil, nil }),
		"an empty class":           change(func(t *api.Transducer) { t.Classes[0], t.Classes[1] = all, api.Class{} }),
		"a third, empty class":     without(counter("a", 3), ""),
		"overlapping classes":      change(func(t *api.Transducer) { t.Classes[1] = classOf("ab") }),
		"a missing byte":           change(func(t *api.Transducer) { t.Classes[0] = besides("ab") }),
		"too many states":          counter("a", 65),
		"a state without moves":    change(func(t *api.Transducer) { t.Moves[2] = nil }),
		"a missing column":         change(func(t *api.Transducer) { t.Moves[1] = t.Moves[1][:1] }),
		"a further column":         change(func(t *api.Transducer) { t.Moves[1] = append(t.Moves[1], no) }),
		"a further row":            change(func(t *api.Transducer) { t.Moves = append(t.Moves, t.Moves[0]) }),
		"a missing row":            change(func(t *api.Transducer) { t.Moves = t.Moves[:2]; t.Moves[1][1].To = 0 }),
		"a missing final":          change(func(t *api.Transducer) { t.Final = t.Final[:2] }),
		"a further final":          change(func(t *api.Transducer) { t.Final = append(t.Final, true) }),
		"a missing end":            change(func(t *api.Transducer) { t.Ends = t.Ends[:2] }),
		"a further end":            change(func(t *api.Transducer) { t.Ends = append(t.Ends, nil) }),
		"a target too large":       set(to(3, "")),
		"a target below -1":        set(to(-2, "")),
		"a missing move's output":  set(to(-1, "a")),
		"a missing move's copy":    set(to(-1, ".")),
		"nine pieces":              set(to(0, "aaaa....b")),
		"a copy with a byte":       set(api.Move{Out: []api.Piece{{Copy: true}, {Copy: true, B: 'a'}}}),
		"an end of nine bytes":     change(func(t *api.Transducer) { t.Ends[1] = []byte("123456789") }),
		"an end that is not final": change(func(t *api.Transducer) { t.Final[1] = false }),
	}
}

// P7.1, G1: all conditions of validity.
func TestInvalid(t *testing.T) {
	for what, m := range invalid() {
		if transducer.Valid(m) {
			t.Errorf("%s is valid", what)
		}
		if out, ok := transducer.Run(m, []byte("a")); ok || len(out) != 0 {
			t.Errorf("%s: output %q, %v", what, out, ok)
		}
		if out, ok := transducer.Run(m, nil); ok || len(out) != 0 {
			t.Errorf("%s: output for no bytes %q, %v", what, out, ok)
		}
	}
}

// P7.1, G1: what the conditions of validity allow.
func TestValid(t *testing.T) {
	full := counter("a", 64)
	for p := range full.Moves {
		full.Moves[p] = []api.Move{to(63-p, "........"), to(p, "aaaaaaaa")}
		full.Ends[p] = []byte("12345678")
	}
	free := api.Transducer{Classes: []api.Class{all}, Moves: [][]api.Move{{no}}, Final: []bool{false}, Ends: [][]byte{nil}}
	zero := api.Transducer{Classes: []api.Class{classOf("b"), besides("b")}, Moves: [][]api.Move{{to(0, "\x00"), to(0, ".\x00.")}}, Final: []bool{true}, Ends: [][]byte{{0}}}
	for i, m := range append(samples(100), full, free, zero, wide(1)) {
		if !transducer.Valid(m) {
			t.Errorf("%d: %v is not valid", i, m)
		}
	}
}

// P7.1, G1: the outputs of the chapter's examples.
func TestRunExamples(t *testing.T) {
	m := example()
	for w, want := range map[string]string{"ca": "cbb!", "": "!", "a": "bb!", "!": "!!", "\xff\x00a": "\xff\x00bb!"} {
		if out, ok := run(m, w); !ok || out != want {
			t.Errorf("output for %q: %q, %v, want %q", w, out, ok, want)
		}
	}
}

// P7.1, G1: the output of a word, as the chapter defines it.
func TestRun(t *testing.T) {
	for _, m := range samples(400) {
		for _, w := range words("abc", 4) {
			out, ok := run(m, w)
			if want, is := output(m, 0, w); out != want || ok != is {
				t.Fatalf("%v, %q: %s, want %s", m, w, text(out, ok), text(want, is))
			}
		}
		for b := range 256 {
			w := "a" + string([]byte{byte(b)})
			out, ok := run(m, w)
			if want, is := output(m, 0, w); out != want || ok != is {
				t.Fatalf("%v, %q: %s, want %s", m, w, text(out, ok), text(want, is))
			}
		}
	}
}

// P7.1, G1: there is no output after a missing move and in a state that is not final, whatever has been written.
func TestRunMissing(t *testing.T) {
	m := without(counter("a", 2), "c")
	m.Final[1] = false
	for w, want := range map[string]bool{"": true, "bb": true, "a": false, "baba": true, "aba": true, "ab": false, "c": false, "aac": false, "caa": false} {
		if out, ok := run(m, w); ok != want || ok && out != w || !ok && out != "" {
			t.Errorf("output for %q: %s", w, text(out, ok))
		}
	}
}

// P7.1, G1: long words have long outputs.
func TestRunLong(t *testing.T) {
	m := with(example(), 0, 0, to(0, "........"))
	w := strings.Repeat("ab", 5000)
	if out, ok := run(m, w); !ok || out != strings.Repeat("bbbbbbbbbb", 5000)+"!" {
		t.Errorf("%d bytes, %v", len(out), ok)
	}
}

// P7.1, G2, G3: the examples of the domain and of a preimage.
func TestPreimageExamples(t *testing.T) {
	m := example()
	d, err := transducer.Domain(m)
	if !same(built(t, d, err), every) {
		t.Errorf("domain: %v", d)
	}
	d, err = transducer.Preimage(m, wordOf(t, "bb!"))
	built(t, d, err)
	for _, w := range words("ab!", 5) {
		if automaton.Accepts(d, []byte(w)) != (w == "a" || w == "bb") {
			t.Errorf("preimage: %q is wrong", w)
		}
	}
}

// wordOf returns the automaton of a word.
func wordOf(t *testing.T, w string) api.DFA {
	t.Helper()
	d, err := automaton.Word([]byte(w))
	return built(t, d, err)
}

// P7.1, P7.2, G2: the domain is the canonical automaton of the words that have an output.
func TestDomain(t *testing.T) {
	for _, m := range samples(150) {
		d, err := transducer.Domain(m)
		check(t, d, err, preimage(m, every))
		p, fails := transducer.Preimage(m, every)
		if fails != err || !same(p, d) {
			t.Fatalf("%v: the domain is %v, the preimage of all words %v, %v", m, d, p, fails)
		}
		for _, w := range words("abc", 4) {
			if _, ok := run(m, w); ok != automaton.Accepts(d, []byte(w)) {
				t.Fatalf("%v: %q has an output: %v", m, w, ok)
			}
		}
	}
}

// P7.1, P7.3, G3: the preimage is the canonical automaton of the words whose outputs are accepted.
func TestPreimage(t *testing.T) {
	l := automata(40)
	for i, m := range samples(150) {
		for k := range 3 {
			d := l[(i+k*7)%len(l)]
			p, err := transducer.Preimage(m, d)
			check(t, p, err, preimage(m, d))
			for _, w := range words("abc", 3) {
				out, ok := run(m, w)
				if in := ok && accepts(d, out); in != automaton.Accepts(p, []byte(w)) {
					t.Fatalf("%v, %v: %q, whose output is %s, is in the preimage: %v", m, d, w, text(out, ok), !in)
				}
			}
		}
	}
}

// P7.3: preimages of unions, intersections and differences are those of the preimages.
func TestPreimageOperations(t *testing.T) {
	l := automata(30)
	for i, m := range samples(60) {
		a, b := l[i%len(l)], l[(i*7+3)%len(l)]
		pre := func(d api.DFA, err api.Errno) api.DFA {
			p, fails := transducer.Preimage(m, built(t, d, err))
			return built(t, p, fails)
		}
		for what, f := range map[string]func(a, b api.DFA) (api.DFA, api.Errno){"union": automaton.Or, "intersection": automaton.And, "difference": automaton.Minus} {
			d, err := f(pre(a, api.OK), pre(b, api.OK))
			if p := pre(f(a, b)); !same(p, built(t, d, err)) {
				t.Fatalf("%v: the preimage of the %s of %v and %v is %v, not %v", m, what, a, b, p, d)
			}
		}
	}
}

// P7.1, G2: a domain may have 64 states, the dead one among them.
func TestDomainBig(t *testing.T) {
	for n, want := range map[int]int{62: 63, 63: 64, 64: 0} {
		m := without(counter("a", n), "c")
		clear(m.Final[1:])
		d, err := transducer.Domain(m)
		if want > 0 && (err != api.OK || len(d.Next) != want) || want == 0 && (err != api.ErrBig || !zero(d)) {
			t.Errorf("%d states: %d states, %v", n, len(d.Next), err)
		}
	}
	m := counter("a", 64)
	clear(m.Final[1:])
	d, err := transducer.Domain(m)
	if !same(built(t, d, err), cycle("a", 64)) {
		t.Errorf("64 states without a dead one: %v", d)
	}
}

// P7.1, G3: only the result is limited: all pairs of 64 states and the dead state lead to small preimages.
func TestPreimageBig(t *testing.T) {
	m := without(counter("a", 64), "c")
	d := cycle("b", 64)
	if p, err := transducer.Preimage(m, d); err != api.ErrBig || !zero(p) {
		t.Errorf("%d states, %v", len(p.Next), err)
	}
	clear(d.Accept)
	p, err := transducer.Preimage(m, d)
	if !same(built(t, p, err), none) {
		t.Errorf("preimage of no words: %v", p)
	}
	for q := range d.Accept {
		d.Accept[q] = true
	}
	p, err = transducer.Preimage(m, d)
	want := api.DFA{Classes: partition("c"), Next: [][]int{{0, 1}, {1, 1}}, Accept: []bool{true, false}}
	if !same(built(t, p, err), want) {
		t.Errorf("preimage of all words: %v", p)
	}
	p, err = transducer.Preimage(counter("a", 64), cycle("b", 64))
	if !same(built(t, p, err), cycle("b", 64)) {
		t.Errorf("preimage of copies: %v", p)
	}
}

// P7.1, G2 to G4: arguments that are not valid.
func TestLanguagesInvalid(t *testing.T) {
	bad := []api.DFA{{}, {Classes: []api.Class{all}, Next: [][]int{{1}}, Accept: []bool{true}}, cycle("a", 65)}
	both := map[string]func(t api.Transducer, d api.DFA) (api.DFA, api.Errno){"Preimage": transducer.Preimage, "Image": transducer.Image}
	for what, m := range invalid() {
		if d, err := transducer.Domain(m); err != api.ErrArg || !zero(d) {
			t.Errorf("Domain of %s: %v, %v", what, d, err)
		}
		for name, f := range both {
			for _, d := range append(bad, every) {
				if r, err := f(m, d); err != api.ErrArg || !zero(r) {
					t.Errorf("%s of %s: %v, %v", name, what, r, err)
				}
			}
		}
	}
	for name, f := range both {
		for _, d := range bad {
			if r, err := f(example(), d); err != api.ErrArg || !zero(r) {
				t.Errorf("%s of %v: %v, %v", name, d, r, err)
			}
		}
	}
}

// P7.1, G6: the words of a scope are compared in shortlex order.
func TestApartExamples(t *testing.T) {
	m := example()
	c, err := transducer.Compose(m, m)
	if err != api.OK {
		t.Fatal(err)
	}
	if w, ok, err := transducer.Apart(m, c, api.Scope{Alphabet: []byte("ab"), Most: 2}); err != api.OK || !ok || len(w) != 0 {
		t.Errorf("%q, %v, %v", w, ok, err)
	}
	for _, x := range []struct {
		t, u     api.Transducer
		alphabet string
		most     int
		want     string
		differ   bool
	}{
		// They differ after two a, however many other bytes come between.
		{counter("a", 2), with(counter("a", 2), 1, 1, no), "ab", 8, "aa", true},
		{counter("b", 2), with(counter("b", 2), 1, 1, to(0, "c")), "ab", 8, "bb", true},
		{counter("b", 2), with(counter("b", 2), 1, 1, to(0, "b")), "ab", 8, "", false},
		{counter("a", 2), with(counter("a", 2), 1, 1, no), "ab", 1, "", false},
		{counter("a", 2), with(counter("a", 2), 1, 1, no), "bcd", 6, "", false},
		// The outputs for words of eight bytes differ, but those of shorter ones do not.
		{counter("a", 8), with(counter("a", 8), 7, 1, to(0, "")), "aa\xff"[1:], 8, "aaaaaaaa", true},
		{counter("a", 2), with(counter("a", 2), 0, 1, to(0, ".")), "a", 0, "", false},
		{endless(example()), endless(counter("a", 2)), "ab", 3, "", false},
		{endless(example()), example(), "ab", 3, "", true},
	} {
		w, ok, err := transducer.Apart(x.t, x.u, api.Scope{Alphabet: []byte(x.alphabet), Most: x.most})
		if err != api.OK || ok != x.differ || string(w) != x.want {
			t.Errorf("%v and %v: %q, %v, %v, want %q", x.t, x.u, w, ok, err, x.want)
		}
	}
}

// P7.1, P7.6, G6: Apart returns the first word for which outputs differ; a transducer does not differ from itself.
func TestApart(t *testing.T) {
	l := samples(120)
	for i, m := range l {
		u := l[(i*7+1)%len(l)]
		if i%3 == 0 {
			u = with(m, len(m.Moves)-1, 0, to(0, ".a"))
		}
		s := api.Scope{Alphabet: []byte("abc"), Most: 5}
		list := words("abc", 5)
		first := slices.IndexFunc(list, func(w string) bool {
			x, some := output(m, 0, w)
			y, other := output(u, 0, w)
			return some != other || x != y
		})
		w, ok, err := transducer.Apart(m, u, s)
		if err != api.OK || ok != (first >= 0) || ok && string(w) != list[first] || !ok && len(w) != 0 {
			t.Fatalf("%v and %v: %q, %v, %v, want word %d", m, u, w, ok, err, first)
		}
		if w, ok, err := transducer.Apart(m, m, s); err != api.OK || ok || len(w) != 0 {
			t.Fatalf("%v differs from itself for %q, %v, %v", m, w, ok, err)
		}
	}
}

// P7.1, G6: errors of Apart.
func TestApartErrors(t *testing.T) {
	good, big := api.Scope{Alphabet: []byte("ab"), Most: 8}, api.Scope{Alphabet: []byte("abcd"), Most: 8}
	bad := []api.Scope{{}, {Most: 2}, {Alphabet: []byte("ba"), Most: 2}, {Alphabet: []byte("aa"), Most: 2}, {Alphabet: []byte("abcde"), Most: 1}, {Alphabet: []byte("a"), Most: 9}, {Alphabet: []byte("a"), Most: -1}}
	for what, m := range invalid() {
		for _, s := range append(bad, good, big) {
			for _, pair := range [][2]api.Transducer{{m, example()}, {example(), m}, {m, m}} {
				if w, ok, err := transducer.Apart(pair[0], pair[1], s); err != api.ErrArg || ok || len(w) != 0 {
					t.Errorf("%s: %q, %v, %v", what, w, ok, err)
				}
			}
		}
	}
	for _, s := range bad {
		if w, ok, err := transducer.Apart(example(), endless(example()), s); err != api.ErrArg || ok || len(w) != 0 {
			t.Errorf("%v: %q, %v, %v", s, w, ok, err)
		}
	}
	for _, c := range []struct {
		alphabet string
		most     int
		err      api.Errno
	}{{"a", 8, api.OK}, {"ab", 8, api.OK}, {"abc", 7, api.OK}, {"abc", 8, api.ErrBig}, {"abcd", 5, api.OK}, {"abcd", 6, api.ErrBig}, {"abcd", 8, api.ErrBig}} {
		w, ok, err := transducer.Apart(example(), endless(example()), api.Scope{Alphabet: []byte(c.alphabet), Most: c.most})
		if err != c.err || ok != (err == api.OK) || len(w) != 0 {
			t.Errorf("%q, %d: %q, %v, %v", c.alphabet, c.most, w, ok, err)
		}
	}
}
