package transducer_test

import (
	"bytes"
	"slices"
	"testing"

	"univocal/api"
	"univocal/transducer"
)

// A result is what a call returns, as far as it is not used by the function.
type result struct {
	t   api.Transducer
	d   api.DFA
	w   []byte
	ok  bool
	err api.Errno
}

// A request is the arguments of a call, as far as the function uses them.
type request struct {
	t, u api.Transducer
	d    api.DFA
	w    []byte
	s    api.Scope
}

// calls are the functions of the package.
var calls = map[string]func(r request) result{
	"Valid": func(r request) result { return result{ok: transducer.Valid(r.t)} },
	"Run": func(r request) result {
		w, ok := transducer.Run(r.t, r.w)
		return result{w: w, ok: ok}
	},
	"Domain":   func(r request) result { return automatic(transducer.Domain(r.t)) },
	"Preimage": func(r request) result { return automatic(transducer.Preimage(r.t, r.d)) },
	"Image":    func(r request) result { return automatic(transducer.Image(r.t, r.d)) },
	"Compose": func(r request) result {
		t, err := transducer.Compose(r.t, r.u)
		return result{t: t, err: err}
	},
	"Apart": func(r request) result {
		w, ok, err := transducer.Apart(r.t, r.u, r.s)
		return result{w: w, ok: ok, err: err}
	},
}

func automatic(d api.DFA, err api.Errno) result { return result{d: d, err: err} }

func equal(x, y result) bool {
	return alike(x.t, y.t) && same(x.d, y.d) && bytes.Equal(x.w, y.w) && x.ok == y.ok && x.err == y.err
}

func kept(r result) result {
	return result{t: clone(r.t), d: cloneDFA(r.d), w: bytes.Clone(r.w), ok: r.ok, err: r.err}
}

func copied(r request) request {
	return request{clone(r.t), clone(r.u), cloneDFA(r.d), bytes.Clone(r.w), api.Scope{Alphabet: bytes.Clone(r.s.Alphabet), Most: r.s.Most}}
}

func sameRequest(x, y request) bool {
	return alike(x.t, y.t) && alike(x.u, y.u) && same(x.d, y.d) && bytes.Equal(x.w, y.w) && bytes.Equal(x.s.Alphabet, y.s.Alphabet) && x.s.Most == y.s.Most
}

// requests returns requests of many kinds, all of them valid.
func requests() []request {
	l, languages := samples(60), automata(20)
	scopes := []api.Scope{{Alphabet: []byte("ab"), Most: 3}, {Alphabet: []byte{0, 'a', 'c', 255}, Most: 2}, {Alphabet: []byte("c"), Most: 0}}
	var r []request
	for i, m := range l {
		s := scopes[i%3]
		r = append(r, request{m, l[(i*7+3)%len(l)], languages[i%len(languages)], []byte("abac"), api.Scope{Alphabet: bytes.Clone(s.Alphabet), Most: s.Most}})
	}
	return r
}

// spoiled returns requests of which some are not valid.
func spoiled() []request {
	s := sequence()
	l := requests()
	for _, m := range invalid() {
		r := copied(l[s.next(len(l))])
		r.t = m
		l = append(l, r)
	}
	for i := range 200 {
		r := copied(l[i%60])
		m := &r.t
		p, b := s.next(len(m.Moves)), s.next(256)
		c := slices.IndexFunc(m.Classes, func(c api.Class) bool { return has(c, b) })
		switch s.next(9) {
		case 0:
			m.Moves[p][c].To = s.next(9) - 4
		case 1:
			m.Moves[p] = m.Moves[p][1:]
		case 2:
			m.Classes[c] = api.Class{uint64(s.next(1 << 20)), 0, uint64(s.next(9))}
		case 3:
			m.Final = m.Final[p:]
		case 4:
			m.Ends = m.Ends[:p]
		case 5:
			m.Moves[p][c].Out = append(m.Moves[p][c].Out, api.Piece{Copy: s.next(2) == 0, B: byte(s.next(2))})
		case 6:
			r.d.Next[0][0] = s.next(9) - 4
		case 7:
			r.s.Alphabet = append(r.s.Alphabet, byte(s.next(256)))
		case 8:
			r.s.Most = s.next(14) - 3
		}
		l = append(l, r)
	}
	return append(l, request{})
}

// P1: no function panics, whatever its arguments are; P2: without a value there is no other result.
func TestNoPanic(t *testing.T) {
	for what, call := range calls {
		for _, r := range spoiled() {
			x := call(r)
			if x.err != api.OK && !equal(x, result{err: x.err}) || !x.ok && len(x.w) != 0 {
				t.Fatalf("%s of %v: %v", what, r, x)
			}
		}
	}
}

// P2: arguments are not changed.
func TestArguments(t *testing.T) {
	for what, call := range calls {
		for _, r := range spoiled() {
			before := copied(r)
			call(r)
			if !sameRequest(r, before) {
				t.Fatalf("%s changes its arguments %v to %v", what, before, r)
			}
		}
	}
}

// spoil overwrites all memory that a result can reach, one slice after the other, and checks that the others stay.
func spoil(t *testing.T, what string, r result) {
	t.Helper()
	stays := func(f func()) {
		t.Helper()
		before := kept(r)
		f()
		if !equal(r, before) {
			t.Fatalf("%s: two slices of the result share memory", what)
		}
	}
	for i, row := range r.t.Moves {
		for c, m := range row {
			r.t.Moves[i][c] = api.Move{}
			stays(func() {
				for k := range m.Out[:cap(m.Out)] {
					m.Out[:cap(m.Out)][k].B = 99
				}
			})
		}
		r.t.Moves[i] = nil
		stays(func() { clear(row[:cap(row)]) })
	}
	for i, end := range r.t.Ends {
		r.t.Ends[i] = nil
		stays(func() {
			for k := range end[:cap(end)] {
				end[:cap(end)][k] ^= 99
			}
		})
	}
	for i, row := range r.d.Next {
		r.d.Next[i] = nil
		stays(func() {
			for k := range row[:cap(row)] {
				row[:cap(row)][k] = -7
			}
		})
	}
	clear(r.t.Classes[:cap(r.t.Classes)])
	clear(r.d.Classes[:cap(r.d.Classes)])
	for _, l := range [][]bool{r.t.Final[:cap(r.t.Final)], r.d.Accept[:cap(r.d.Accept)]} {
		for i := range l {
			l[i] = !l[i]
		}
	}
	for i := range r.w[:cap(r.w)] {
		r.w[:cap(r.w)][i] ^= 99
	}
}

// P2: results are new memory and share none with arguments or with each other.
func TestNewMemory(t *testing.T) {
	for what, call := range calls {
		for _, r := range requests() {
			args := copied(r)
			x, y := call(r), call(r)
			before := kept(y)
			spoil(t, what, x)
			if !sameRequest(r, args) {
				t.Fatalf("%s of %v: the result shares memory with an argument", what, args)
			}
			if !equal(y, before) {
				t.Fatalf("%s of %v: the results of two calls share memory", what, args)
			}
		}
	}
}

// P2: equal arguments have equal results, also if calls come between.
func TestEqualResults(t *testing.T) {
	l := spoiled()
	for what, call := range calls {
		var before []result
		for _, r := range l {
			before = append(before, call(r))
		}
		for i, r := range l {
			if x := call(copied(r)); !equal(x, before[i]) {
				t.Fatalf("%s of %v: %v and %v", what, r, before[i], x)
			}
		}
	}
}

// filled returns r with empty slices instead of nil ones.
func filled(r request) request {
	r = copied(r)
	for _, m := range []*api.Transducer{&r.t, &r.u} {
		for _, row := range m.Moves {
			for c := range row {
				if len(row[c].Out) == 0 {
					row[c].Out = []api.Piece{}
				}
			}
		}
		for p := range m.Ends {
			if len(m.Ends[p]) == 0 {
				m.Ends[p] = []byte{}
			}
		}
	}
	r.w = []byte{}
	return r
}

// P2: nil and empty slices are the same argument.
func TestNilSlices(t *testing.T) {
	empty := api.Transducer{Classes: []api.Class{}, Moves: [][]api.Move{}, Final: []bool{}, Ends: [][]byte{}}
	d := api.DFA{Classes: []api.Class{}, Next: [][]int{}, Accept: []bool{}}
	for what, call := range calls {
		x := call(request{t: empty, u: empty, d: d, w: []byte{}, s: api.Scope{Alphabet: []byte{}}})
		if y := call(request{}); !equal(x, y) {
			t.Errorf("%s of nothing: %v and %v", what, x, y)
		}
		for _, r := range requests() {
			r.w = nil
			x := call(filled(r))
			for _, m := range []*api.Transducer{&r.t, &r.u} {
				for p := range m.Ends {
					if len(m.Ends[p]) == 0 {
						m.Ends[p] = nil
					}
				}
			}
			if y := call(r); !equal(x, y) {
				t.Fatalf("%s of %v: %v and %v", what, r, x, y)
			}
		}
	}
}
