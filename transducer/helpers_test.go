package transducer_test

import (
	"bytes"
	"slices"
	"strconv"
	"testing"

	"univocal/api"
	"univocal/automaton"
	"univocal/transducer"
)

// numbers is a fixed sequence of numbers.
type numbers uint64

func (s *numbers) next(n int) int {
	x := uint64(*s)
	x ^= x << 13
	x ^= x >> 7
	x ^= x << 17
	*s = numbers(x)
	return int(x >> 33 % uint64(n))
}

func sequence() *numbers {
	s := numbers(88172645463325252)
	return &s
}

func has(c api.Class, b int) bool { return c[b/64]&(1<<uint(b%64)) != 0 }

func add(c *api.Class, b int) { c[b/64] |= 1 << uint(b%64) }

// classOf builds the class of the bytes of a string from its definition.
func classOf(s string) api.Class {
	var c api.Class
	for i := range len(s) {
		add(&c, int(s[i]))
	}
	return c
}

// besides returns the class of the bytes that are not in s.
func besides(s string) api.Class {
	c := classOf(s)
	for i := range c {
		c[i] = ^c[i]
	}
	return c
}

var all = besides("")

// partition returns the classes of some strings and, first, the class of all other bytes.
func partition(l ...string) []api.Class {
	var every string
	for _, s := range l {
		every += s
	}
	classes := []api.Class{besides(every)}
	for _, s := range l {
		classes = append(classes, classOf(s))
	}
	return classes
}

var (
	none  = api.DFA{Classes: []api.Class{all}, Next: [][]int{{0}}, Accept: []bool{false}}
	every = api.DFA{Classes: []api.Class{all}, Next: [][]int{{0}}, Accept: []bool{true}}
)

// cycle returns the automaton that counts the bytes of a string modulo n, and accepts the number 0; if the string is empty,
// it counts all bytes.
func cycle(s string, n int) api.DFA {
	d := api.DFA{Classes: []api.Class{all}}
	if s != "" {
		d.Classes = partition(s)
	}
	for q := range n {
		d.Next = append(d.Next, []int{q, (q + 1) % n}[2-len(d.Classes):])
		d.Accept = append(d.Accept, q == 0)
	}
	return d
}

// pieces reads pieces: a dot stands for a copy, everything else for itself.
func pieces(s string) []api.Piece {
	var l []api.Piece
	for i := range len(s) {
		if s[i] == '.' {
			l = append(l, api.Piece{Copy: true})
		} else {
			l = append(l, api.Piece{B: s[i]})
		}
	}
	return l
}

// to returns a move.
func to(state int, out string) api.Move { return api.Move{To: state, Out: pieces(out)} }

// no is a missing move.
var no = api.Move{To: -1}

// example returns the transducer of the chapter's examples.
func example() api.Transducer {
	return api.Transducer{
		Classes: partition("a"),
		Moves:   [][]api.Move{{to(0, "."), to(0, "bb")}},
		Final:   []bool{true},
		Ends:    [][]byte{[]byte("!")},
	}
}

// counter returns the transducer of n states that copies what it reads and counts the bytes of a string modulo n.
func counter(s string, n int) api.Transducer {
	t := api.Transducer{Classes: partition(s)}
	for p := range n {
		t.Moves = append(t.Moves, []api.Move{to(p, "."), to((p+1)%n, ".")})
		t.Final = append(t.Final, true)
		t.Ends = append(t.Ends, nil)
	}
	return t
}

// with returns t with another move from the state p for the class c.
func with(t api.Transducer, p, c int, m api.Move) api.Transducer {
	t = clone(t)
	t.Moves[p][c] = m
	return t
}

// without returns t without moves for the bytes of a string.
func without(t api.Transducer, s string) api.Transducer {
	t = clone(t)
	c := classOf(s)
	for i := range t.Classes {
		for k := range c {
			t.Classes[i][k] &^= c[k]
		}
	}
	t.Classes = append(t.Classes, c)
	for p := range t.Moves {
		t.Moves[p] = append(t.Moves[p], no)
	}
	return t
}

// endless returns t without final states.
func endless(t api.Transducer) api.Transducer {
	t = clone(t)
	clear(t.Final)
	clear(t.Ends)
	return t
}

// classes returns a partition of all bytes into k classes, in any order, in which letters are apart.
func (s *numbers) classes(k int) []api.Class {
	l := make([]api.Class, k)
	shift := s.next(k)
	mixed := s.next(3) == 0
	for b := range 256 {
		i := k - 1
		if first := b - 'a'; first >= 0 && first < k {
			i = first
		} else if mixed {
			i = s.next(k)
		}
		add(&l[(i+shift)%k], b)
	}
	return l
}

// automaton returns an automaton with n states and k classes.
func (s *numbers) automaton(n, k int) api.DFA {
	d := api.DFA{Classes: s.classes(k)}
	for range n {
		var row []int
		for range k {
			row = append(row, s.next(n))
		}
		d.Next = append(d.Next, row)
		d.Accept = append(d.Accept, s.next(2) == 0)
	}
	return d
}

// output returns the text of at most n pieces, of which most are copies, a and b.
func (s *numbers) output(n int) string {
	var out string
	for range s.next(n + 1) {
		out += []string{".", ".", "a", "a", "b", "\xff"}[s.next(6)]
	}
	return out
}

// transducer returns a transducer with n states, k classes and at most most pieces in a move or an end.
func (s *numbers) transducer(n, k, most int) api.Transducer {
	t := api.Transducer{Classes: s.classes(k)}
	rare := 3 + s.next(9)
	for range n {
		var row []api.Move
		for range k {
			m := no
			if s.next(rare) > 0 {
				m = to(s.next(n), s.output(most))
			}
			row = append(row, m)
		}
		t.Moves = append(t.Moves, row)
		final := s.next(3) > 0
		t.Final = append(t.Final, final)
		var end []byte
		if final {
			end = bytes.ReplaceAll([]byte(s.output(most)), []byte("."), []byte("c"))
		}
		t.Ends = append(t.Ends, end)
	}
	return t
}

// samples returns transducers of many kinds.
func samples(n int) []api.Transducer {
	s := sequence()
	l := []api.Transducer{example(), counter("a", 3), without(counter("b", 2), "a"), endless(example()), wide(2), wide(0)}
	for i := range n {
		l = append(l, s.transducer(1+i%4, 1+i%3, i%4))
	}
	return l
}

// automata returns automata of many kinds.
func automata(n int) []api.DFA {
	s := sequence()
	l := []api.DFA{none, every, cycle("a", 2), cycle("", 3)}
	for i := range n {
		l = append(l, s.automaton(1+i%5, 1+i%4))
	}
	return l
}

// wide returns a transducer with a class for each byte, which writes the byte at a distance from the one that is read, and
// nothing for the byte 0.
func wide(distance int) api.Transducer {
	t := api.Transducer{Moves: [][]api.Move{nil}, Final: []bool{true}, Ends: [][]byte{nil}}
	for b := range 256 {
		t.Classes = append(t.Classes, classOf(string([]byte{byte(b)})))
		m := api.Move{}
		if b > 0 {
			m.Out = []api.Piece{{B: byte(b + distance)}}
		}
		t.Moves[0] = append(t.Moves[0], m)
	}
	return t
}

func same(a, b api.DFA) bool {
	return slices.Equal(a.Classes, b.Classes) && slices.EqualFunc(a.Next, b.Next, slices.Equal) && slices.Equal(a.Accept, b.Accept)
}

// alike reports whether two transducers are the same value.
func alike(t, u api.Transducer) bool {
	move := func(m, n api.Move) bool { return m.To == n.To && slices.Equal(m.Out, n.Out) }
	row := func(l, m []api.Move) bool { return slices.EqualFunc(l, m, move) }
	return slices.Equal(t.Classes, u.Classes) && slices.EqualFunc(t.Moves, u.Moves, row) && slices.Equal(t.Final, u.Final) && slices.EqualFunc(t.Ends, u.Ends, bytes.Equal)
}

// zero reports whether an automaton is the zero value.
func zero(d api.DFA) bool { return len(d.Classes) == 0 && len(d.Next) == 0 && len(d.Accept) == 0 }

func cloneDFA(d api.DFA) api.DFA {
	c := api.DFA{Classes: slices.Clone(d.Classes), Accept: slices.Clone(d.Accept)}
	for _, row := range d.Next {
		c.Next = append(c.Next, slices.Clone(row))
	}
	return c
}

func clone(t api.Transducer) api.Transducer {
	c := api.Transducer{Classes: slices.Clone(t.Classes), Final: slices.Clone(t.Final)}
	for _, row := range t.Moves {
		var moves []api.Move
		for _, m := range row {
			moves = append(moves, api.Move{To: m.To, Out: slices.Clone(m.Out)})
		}
		c.Moves = append(c.Moves, moves)
	}
	for _, end := range t.Ends {
		c.Ends = append(c.Ends, slices.Clone(end))
	}
	return c
}

// words returns all words over the alphabet of at most n bytes, in shortlex order.
func words(alphabet string, n int) []string {
	l := []string{""}
	for from := 0; n > 0; n-- {
		to := len(l)
		for ; from < to; from++ {
			for i := range len(alphabet) {
				l = append(l, l[from]+alphabet[i:i+1])
			}
		}
	}
	return l
}

// built fails unless an operation has an automaton as its result.
func built(t *testing.T, d api.DFA, err api.Errno) api.DFA {
	t.Helper()
	if err != api.OK || !automaton.Valid(d) {
		t.Fatalf("%v, %v", d, err)
	}
	return d
}

// run returns the output as a string.
func run(m api.Transducer, w string) (string, bool) {
	out, ok := transducer.Run(m, []byte(w))
	return string(out), ok
}

// text describes an output.
func text(out string, ok bool) string {
	if !ok {
		return "no output"
	}
	return strconv.Quote(out)
}
