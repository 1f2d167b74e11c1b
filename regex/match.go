package regex

import (
	"cmp"
	"iter"
	"maps"
	"slices"
	"strconv"

	"univocal/api"
	"univocal/class"
)

// Nullable reports whether the empty word matches.
func Nullable(x api.Regex) bool { return Match(x, nil) }

// Match reports whether a word matches.
func Match(x api.Regex, b []byte) bool {
	if Valid(x) != api.OK {
		return false
	}
	m := matcher{x, b, map[visit][]api.Span{}}
	ends := m.ends(len(x)-1, only(0))
	return len(ends) > 0 && ends[len(ends)-1].To > len(b)
}

// A visit is a node and the key of the set of positions where its matches begin.
type visit struct {
	node   int
	starts string
}

// A matcher finds the positions at which matches in the word b end. A set of positions is a list of spans in increasing
// order that neither overlap nor touch, because the sets that complements and repetitions lead to are large, but have few
// gaps. The ends are memoized for the kinds of nodes that would otherwise visit their operands again and again.
type matcher struct {
	x    api.Regex
	b    []byte
	memo map[visit][]api.Span
}

// only returns the set of the position p.
func only(p int) []api.Span { return []api.Span{{From: p, To: p + 1}} }

// key returns a text of a set; different sets have different ones.
func key(l []api.Span) string {
	var text []byte
	for _, s := range l {
		text = strconv.AppendInt(text, int64(s.From), 10)
		text = append(text, ' ')
		text = strconv.AppendInt(text, int64(s.To), 10)
		text = append(text, ' ')
	}
	return string(text)
}

// ends returns the set of the ends of matches of node i that begin at one of the starts.
func (m *matcher) ends(i int, starts []api.Span) []api.Span {
	switch n := m.x[i]; n.Kind {
	case api.RxEmpty:
		return starts
	case api.RxClass:
		return m.step(n.C, starts)
	case api.RxConcat:
		return m.ends(n.R, m.ends(n.L, starts))
	case api.RxAlt:
		return union(m.ends(n.L, starts), m.ends(n.R, starts))
	case api.RxRepeat:
		return m.memoized(i, starts)
	case api.RxAnd, api.RxNot:
		// The ends of these kinds depend on where the same match begins.
		var lists [][]api.Span
		for p := range positions(starts) {
			lists = append(lists, m.memoized(i, only(p)))
		}
		return union(lists...)
	}
	return nil
}

// step returns the positions behind the bytes at the starts that are members of c.
func (m *matcher) step(c api.Class, starts []api.Span) []api.Span {
	var ends []api.Span
	for p := range positions(starts) {
		if p < len(m.b) && class.Has(c, m.b[p]) {
			ends = add(ends, p+1, p+2)
		}
	}
	return ends
}

// memoized returns what ends returns for a repetition, or for an intersection or complement that begins at one position.
func (m *matcher) memoized(i int, starts []api.Span) []api.Span {
	v := visit{i, key(starts)}
	ends, ok := m.memo[v]
	if ok {
		return ends
	}
	switch n := m.x[i]; n.Kind {
	case api.RxRepeat:
		ends = m.repeat(n, starts)
	case api.RxNot:
		ends = m.others(starts[0].From, m.ends(n.L, starts))
	case api.RxAnd:
		p := starts[0].From
		ends = m.others(p, union(m.others(p, m.ends(n.L, starts)), m.others(p, m.ends(n.R, starts))))
	}
	m.memo[v] = ends
	return ends
}

// others returns the set of the positions from p on that are not in l, whose positions are not before p.
func (m *matcher) others(p int, l []api.Span) []api.Span {
	var gaps []api.Span
	for _, s := range l {
		if p < s.From {
			gaps = append(gaps, api.Span{From: p, To: s.From})
		}
		p = s.To
	}
	if p <= len(m.b) {
		gaps = append(gaps, api.Span{From: p, To: len(m.b) + 1})
	}
	return gaps
}

// repeat returns the ends of the repetitions n that begin at one of the starts.
func (m *matcher) repeat(n api.RegexNode, starts []api.Span) []api.Span {
	for range n.Min {
		next := m.ends(n.L, starts)
		if slices.Equal(next, starts) {
			break
		}
		starts = next
	}
	reached := map[int]bool{}
	for count := n.Min; ; count++ {
		// What a position leads to was found when it was reached first, with as many repetitions left or more.
		var fresh []api.Span
		for p := range positions(starts) {
			if !reached[p] {
				reached[p] = true
				fresh = add(fresh, p, p+1)
			}
		}
		if len(fresh) == 0 || count == n.Max {
			break
		}
		starts = m.ends(n.L, fresh)
	}
	var ends []api.Span
	for _, p := range slices.Sorted(maps.Keys(reached)) {
		ends = add(ends, p, p+1)
	}
	return ends
}

// positions enumerates the positions of a set in increasing order.
func positions(l []api.Span) iter.Seq[int] {
	return func(yield func(int) bool) {
		for _, s := range l {
			for p := s.From; p < s.To; p++ {
				if !yield(p) {
					return
				}
			}
		}
	}
}

// add adds the span from from up to to to a set whose spans do not begin later. The set is changed.
func add(l []api.Span, from, to int) []api.Span {
	if k := len(l) - 1; k >= 0 && from <= l[k].To {
		l[k].To = max(l[k].To, to)
		return l
	}
	return append(l, api.Span{From: from, To: to})
}

// union returns the union of sets.
func union(sets ...[]api.Span) []api.Span {
	l := slices.Concat(sets...)
	slices.SortFunc(l, func(a, b api.Span) int { return cmp.Compare(a.From, b.From) })
	var u []api.Span
	for _, s := range l {
		u = add(u, s.From, s.To)
	}
	return u
}
