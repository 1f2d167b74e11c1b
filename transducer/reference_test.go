package transducer_test

import (
	"slices"
	"strconv"
	"testing"

	"univocal/api"
)

// This file reads the chapter literally: byte by byte, without classes, with all states that it describes.

// moved returns the move for a byte.
func moved(t api.Transducer, p, b int) api.Move {
	return t.Moves[p][slices.IndexFunc(t.Classes, func(c api.Class) bool { return has(c, b) })]
}

// wrote returns what a move writes for a byte.
func wrote(m api.Move, b int) string {
	var out []byte
	for _, x := range m.Out {
		if x.Copy {
			out = append(out, byte(b))
		} else {
			out = append(out, x.B)
		}
	}
	return string(out)
}

// output returns the output for a word if t begins in the state p.
func output(t api.Transducer, p int, w string) (string, bool) {
	var out string
	for i := range len(w) {
		m := moved(t, p, int(w[i]))
		if m.To < 0 {
			return "", false
		}
		out += wrote(m, int(w[i]))
		p = m.To
	}
	if !t.Final[p] {
		return "", false
	}
	return out + string(t.Ends[p]), true
}

// after returns the state of d that a word leads to.
func after(d api.DFA, q int, w string) int {
	for i := range len(w) {
		q = d.Next[q][slices.IndexFunc(d.Classes, func(c api.Class) bool { return has(c, int(w[i])) })]
	}
	return q
}

func accepts(d api.DFA, w string) bool { return d.Accept[after(d, 0, w)] }

// A table is a deterministic automaton: a target for each state and byte.
type table struct {
	next   [][256]int
	accept []bool
}

// explored returns the table of the states that are reached, which are named by strings; nil if they are more than most.
func explored(start string, next func(s string) [256]string, accept func(s string) bool, most int) *table {
	number := map[string]int{start: 0}
	names := []string{start}
	var t table
	for i := 0; i < len(names); i++ {
		var row [256]int
		for b, s := range next(names[i]) {
			k, known := number[s]
			if !known {
				k = len(names)
				number[s] = k
				names = append(names, s)
			}
			row[b] = k
		}
		if len(names) > most {
			return nil
		}
		t.next = append(t.next, row)
		t.accept = append(t.accept, accept(names[i]))
	}
	return &t
}

// canon returns the canonical automaton of a table whose states are all reached: its states are divided into blocks until
// all states of a block lead to the same blocks.
func (t table) canon() api.DFA {
	block := make([]int, len(t.next))
	count := 0
	for {
		number := map[string]int{}
		parts := make([]int, len(t.next))
		for q := range t.next {
			key := []byte(strconv.FormatBool(t.accept[q]))
			last := -1
			for b := range 256 {
				if to := t.next[q][b]; b == 0 || block[to] != last {
					last = block[to]
					key = strconv.AppendInt(append(key, ' '), int64(b), 10)
					key = strconv.AppendInt(append(key, ' '), int64(last), 10)
				}
			}
			if _, known := number[string(key)]; !known {
				number[string(key)] = len(number)
			}
			parts[q] = number[string(key)]
		}
		block = parts
		if len(number) == count {
			return t.merged(block, count)
		}
		count = len(number)
	}
}

// merged returns the canonical automaton whose states are the blocks.
func (t table) merged(block []int, count int) api.DFA {
	if count > api.MaxStates {
		return api.DFA{Next: make([][]int, count)}
	}
	member := make([]int, count)
	for q, b := range block {
		member[b] = q
	}
	order := []int{0}
	for i := 0; i < len(order); i++ {
		for b := range 256 {
			if to := block[t.next[member[order[i]]][b]]; !slices.Contains(order, to) {
				order = append(order, to)
			}
		}
	}
	var d api.DFA
	var columns [][]int
	for b := range 256 {
		var column []int
		for _, k := range order {
			column = append(column, slices.Index(order, block[t.next[member[k]][b]]))
		}
		k := slices.IndexFunc(columns, func(c []int) bool { return slices.Equal(c, column) })
		if k < 0 {
			k = len(columns)
			columns = append(columns, column)
			d.Classes = append(d.Classes, api.Class{})
		}
		add(&d.Classes[k], b)
	}
	for i, k := range order {
		var row []int
		for _, c := range columns {
			row = append(row, c[i])
		}
		d.Next = append(d.Next, row)
		d.Accept = append(d.Accept, t.accept[member[k]])
	}
	return d
}

// canonical returns the canonical automaton of d.
func canonical(d api.DFA) api.DFA {
	t := explored("0", func(s string) [256]string {
		var row [256]string
		q, _ := strconv.Atoi(s)
		for b := range row {
			row[b] = strconv.Itoa(after(d, q, string([]byte{byte(b)})))
		}
		return row
	}, func(s string) bool {
		q, _ := strconv.Atoi(s)
		return d.Accept[q]
	}, api.MaxStates)
	return t.canon()
}

// preimage returns the table of the words whose output d accepts: its states are named by a state of t and one of d, the one
// after a missing move by nothing.
func preimage(t api.Transducer, d api.DFA) *table {
	next := func(s string) [256]string {
		var row [256]string
		for b := range row {
			if s == "" {
				continue
			}
			if m := moved(t, int(s[0]), b); m.To >= 0 {
				row[b] = string([]byte{byte(m.To), byte(after(d, int(s[1]), wrote(m, b)))})
			}
		}
		return row
	}
	return explored("\x00\x00", next, func(s string) bool {
		return s != "" && t.Final[s[0]] && d.Accept[after(d, int(s[1]), string(t.Ends[s[0]]))]
	}, 64*64+1)
}

// A place is a state of the nondeterministic automaton of an image: the pair (p, q) if at is 0; otherwise the state inside of
// the output for the byte b, or the end if b is 256, after at bytes; p is -1 for the accepting state.
type place struct{ p, q, b, at int }

// An image is the nondeterministic automaton of an image.
type image struct {
	t api.Transducer
	d api.DFA
}

// enter adds a place and all that are reached from it without reading.
func (m image) enter(set map[place]bool, x place) {
	if set[x] {
		return
	}
	set[x] = true
	if x.p < 0 || x.at > 0 {
		return
	}
	for b := range 256 {
		if y := moved(m.t, x.p, b); y.To >= 0 && len(y.Out) == 0 {
			m.enter(set, m.target(x, b))
		}
	}
	if m.t.Final[x.p] && m.d.Accept[x.q] && len(m.t.Ends[x.p]) == 0 {
		m.enter(set, place{p: -1})
	}
}

// target returns the pair to which reading b in the pair of x leads.
func (m image) target(x place, b int) place {
	return place{p: moved(m.t, x.p, b).To, q: after(m.d, x.q, string([]byte{byte(b)}))}
}

// read adds, for each byte, what is reached from a place by reading it as the next byte of an output.
func (m image) read(x place, sets *[256]map[place]bool) {
	follow := func(b int, out string, target place) {
		if x.at >= len(out) {
			return
		}
		to := place{x.p, x.q, b, x.at + 1}
		if x.at+1 == len(out) {
			to = target
		}
		m.enter(sets[out[x.at]], to)
	}
	for b := range 256 {
		if x.p < 0 || x.at > 0 && x.b != b {
			continue
		}
		if y := moved(m.t, x.p, b); y.To >= 0 {
			follow(b, wrote(y, b), m.target(x, b))
		}
	}
	if x.p >= 0 && (x.at == 0 || x.b == 256) && m.t.Final[x.p] && m.d.Accept[x.q] {
		follow(256, string(m.t.Ends[x.p]), place{p: -1})
	}
}

// name returns a set of places as a string.
func name(set map[place]bool) string {
	var l []string
	for x := range set {
		l = append(l, string([]byte{byte(x.p), byte(x.q), byte(x.b >> 8), byte(x.b), byte(x.at)}))
	}
	slices.Sort(l)
	var s string
	for _, x := range l {
		s += x
	}
	return s
}

// members returns the places of a set.
func members(s string) []place {
	var l []place
	for ; s != ""; s = s[5:] {
		l = append(l, place{int(int8(s[0])), int(s[1]), int(s[2])<<8 + int(s[3]), int(s[4])})
	}
	return l
}

// images returns the table of the subset construction of an image, nil if it has too many states.
func images(t api.Transducer, d api.DFA) *table {
	m := image{t, canonical(d)}
	start := map[place]bool{}
	m.enter(start, place{})
	next := func(s string) [256]string {
		var sets [256]map[place]bool
		for y := range sets {
			sets[y] = map[place]bool{}
		}
		for _, x := range members(s) {
			m.read(x, &sets)
		}
		var row [256]string
		for y, set := range sets {
			row[y] = name(set)
		}
		return row
	}
	accept := func(s string) bool { return slices.Contains(members(s), place{p: -1}) }
	return explored(name(start), next, accept, api.MaxSubsets)
}

// check fails unless an operation returns the canonical automaton of a table, or ErrBig if it is too large.
func check(t *testing.T, d api.DFA, err api.Errno, want *table) {
	t.Helper()
	if want == nil {
		if err != api.ErrBig || !zero(d) {
			t.Fatalf("%v, %v for too large a construction", d, err)
		}
		return
	}
	c := want.canon()
	if len(c.Next) > api.MaxStates {
		if err != api.ErrBig || !zero(d) {
			t.Fatalf("%v, %v for a result with %d states", d, err, len(c.Next))
		}
		return
	}
	if err != api.OK || !same(d, c) {
		t.Fatalf("got %v, %v, want %v", d, err, c)
	}
}

// composition returns the composition; false if it is too large.
func composition(t, u api.Transducer) (api.Transducer, bool) {
	var r api.Transducer
	var least []int
	for b := range 256 {
		key := func(b int) [2]int {
			return [2]int{slices.IndexFunc(t.Classes, func(c api.Class) bool { return has(c, b) }), slices.IndexFunc(u.Classes, func(c api.Class) bool { return has(c, b) })}
		}
		k := slices.IndexFunc(least, func(a int) bool { return key(a) == key(b) })
		if k < 0 {
			k = len(least)
			least = append(least, b)
			r.Classes = append(r.Classes, api.Class{})
		}
		add(&r.Classes[k], b)
	}
	states := [][2]int{{0, 0}}
	for i := 0; i < len(states); i++ {
		p, q := states[i][0], states[i][1]
		var row []api.Move
		for _, b := range least {
			out, end := passed(u, q, moved(t, p, b).Out, b)
			to := [2]int{moved(t, p, b).To, end}
			if to[0] < 0 || to[1] < 0 {
				row = append(row, no)
				continue
			}
			if len(out) > 8 {
				return api.Transducer{}, false
			}
			if !slices.Contains(states, to) {
				states = append(states, to)
			}
			row = append(row, api.Move{To: slices.Index(states, to), Out: out})
		}
		var end string
		final := t.Final[p]
		if final {
			end, final = output(u, q, string(t.Ends[p]))
		}
		if len(end) > 8 || len(states) > 64 {
			return api.Transducer{}, false
		}
		r.Moves = append(r.Moves, row)
		r.Final = append(r.Final, final)
		r.Ends = append(r.Ends, []byte(end))
	}
	return r, true
}

// passed returns what u writes from the state q on while it reads pieces, of which copies stand for b, and the state that is
// reached, or -1.
func passed(u api.Transducer, q int, l []api.Piece, b int) ([]api.Piece, int) {
	var out []api.Piece
	for _, x := range l {
		m := moved(u, q, b)
		if !x.Copy {
			m = moved(u, q, int(x.B))
		}
		if m.To < 0 {
			return nil, -1
		}
		for _, y := range m.Out {
			switch {
			case !y.Copy:
				out = append(out, api.Piece{B: y.B})
			case x.Copy:
				out = append(out, api.Piece{Copy: true})
			default:
				out = append(out, api.Piece{B: x.B})
			}
		}
		q = m.To
	}
	return out, q
}
