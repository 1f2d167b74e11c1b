package equation

import (
	"slices"

	"univocal/api"
)

// A key is an equation whose sides are written as strings, so that it can be compared.
type key struct{ l, r string }

// keyOf returns the key of an equation whose variables are valid.
func keyOf(e api.Equation) key { return key{written(e.L), written(e.R)} }

// written writes a term with two bytes for each item.
func written(t []api.Item) string {
	var l []byte
	for _, i := range t {
		l = append(l, byte(i.X+1), i.B)
	}
	return string(l)
}

// Graph returns the closed graph of an equation, and whether it has a solution.
func Graph(e api.Equation) ([]api.Equation, bool, api.Errno) {
	if !Valid(e) {
		return nil, false, api.ErrArg
	}
	first, ok := strip(e)
	if !ok {
		return nil, false, api.OK
	}
	list := []api.Equation{canon(first)}
	known := map[key]bool{keyOf(list[0]): true}
	err := api.OK
search:
	for at := 0; at < len(list); at++ {
		for s := range steps(list[at]) {
			next := canon(s.E)
			if known[keyOf(next)] {
				continue
			}
			if len(list) == api.MaxGraph || !Valid(next) {
				list, err = nil, api.ErrBig
				break search
			}
			known[keyOf(next)] = true
			list = append(list, next)
		}
	}
	return list, slices.ContainsFunc(list, solved), err
}

// Check checks that a graph shows that an equation has no solution.
func Check(e api.Equation, g []api.Equation) bool {
	if !Valid(e) {
		return false
	}
	listed := map[key]bool{}
	for _, x := range g {
		if !unsolved(x) {
			return false
		}
		listed[keyOf(x)] = true
	}
	if first, ok := strip(e); ok && !listed[keyOf(canon(first))] {
		return false
	}
	for _, x := range g {
		for s := range steps(x) {
			if !listed[keyOf(canon(s.E))] {
				return false
			}
		}
	}
	return true
}

// unsolved reports whether an equation is valid, stripped, canonical and not solved.
func unsolved(e api.Equation) bool {
	if !Valid(e) || solved(e) {
		return false
	}
	s, ok := strip(e)
	return ok && keyOf(canon(s)) == keyOf(e)
}
