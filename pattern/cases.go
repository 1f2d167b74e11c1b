package pattern

import (
	"slices"

	"univocal/api"
)

// Cases returns disjoint cases that characterize the parts.
func Cases(p api.Pattern) ([]api.Case, api.Errno) {
	l, err := parts(p)
	if err != api.OK {
		return nil, err
	}
	t, err := tails(l)
	if err != api.OK {
		return nil, err
	}
	choices := make([][]option, len(p))
	for i, part := range p {
		if part.Lazy {
			choices[i], err = lazy(l[i], t[i+1])
		} else {
			choices[i], err = greedy(l[i], t[i+1])
		}
		if err != api.OK {
			return nil, err
		}
	}
	return combinations(choices)
}

// combinations returns all combinations of one option of each part, in lexicographic order.
func combinations(choices [][]option) ([]api.Case, api.Errno) {
	cases := []api.Case{{}}
	for _, l := range choices {
		// If a part has no options, then the first one has none either. So the cases do not become fewer again.
		if len(cases)*len(l) > api.MaxCases {
			return nil, api.ErrBig
		}
		var longer []api.Case
		for _, c := range cases {
			for _, o := range l {
				longer = append(longer, extended(c, o))
			}
		}
		cases = longer
	}
	// Until now the cases share the automata of the options.
	for _, c := range cases {
		for i := range c.Heads {
			c.Heads[i], c.Rests[i] = clone(c.Heads[i]), clone(c.Rests[i])
		}
	}
	return cases, api.OK
}

// extended returns a copy of c with an option of a further part.
func extended(c api.Case, o option) api.Case {
	n := len(c.Heads)
	e := api.Case{Heads: make([]api.DFA, n+1), Rests: make([]api.DFA, n+1)}
	copy(e.Heads, c.Heads)
	copy(e.Rests, c.Rests)
	e.Heads[n], e.Rests[n] = o.head, o.rest
	return e
}

// clone returns d in memory of its own.
func clone(d api.DFA) api.DFA {
	c := api.DFA{Classes: slices.Clone(d.Classes), Accept: slices.Clone(d.Accept)}
	for _, row := range d.Next {
		c.Next = append(c.Next, slices.Clone(row))
	}
	return c
}
