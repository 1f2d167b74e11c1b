package lengths

import "univocal/api"

// And returns the intersection.
func And(a, b api.Lengths) (api.Lengths, api.Errno) {
	return combine(a, b, func(x, y bool) bool { return x && y })
}

// Or returns the union.
func Or(a, b api.Lengths) (api.Lengths, api.Errno) {
	return combine(a, b, func(x, y bool) bool { return x || y })
}

// combine returns the set of the numbers for whose membership in a and b of returns true.
func combine(a, b api.Lengths, of func(x, y bool) bool) (api.Lengths, api.Errno) {
	if !Valid(a) || !Valid(b) {
		return api.Lengths{}, api.ErrArg
	}
	head := max(len(a.Head), len(b.Head))
	l := make([]bool, head+multiple(len(a.Cycle), len(b.Cycle)))
	for n := range l {
		l[n] = of(member(a, n), member(b, n))
	}
	return canonical(l, head)
}

// Sum returns the sums of members.
func Sum(a, b api.Lengths) (api.Lengths, api.Errno) {
	if !Valid(a) || !Valid(b) {
		return api.Lengths{}, api.ErrArg
	}
	cycle := multiple(len(a.Cycle), len(b.Cycle))
	// From head on, the sums repeat with the period cycle: if n + cycle is the sum of x and y, then one of them is at least
	// cycle greater than its head, so that it may be reduced by cycle; and if n is the sum, one of them may be increased.
	head := len(a.Head) + len(b.Head) + cycle
	l := make([]bool, head+cycle)
	for _, x := range parts(a) {
		for _, y := range parts(b) {
			for n, is := range sums(x, y, len(l)) {
				l[n] = l[n] || is
			}
		}
	}
	return canonical(l, head)
}

// A part is a part of a set: its least members, and the number that may be added to a member any number of times.
type part struct {
	least []int
	step  int
}

// parts divides a valid set into the part that its head and the part that its cycle describes.
func parts(l api.Lengths) [2]part {
	head, cycle := part{}, part{step: len(l.Cycle)}
	for n := range len(l.Head) + len(l.Cycle) {
		switch {
		case !member(l, n):
		case n < len(l.Head):
			head.least = append(head.least, n)
		default:
			cycle.least = append(cycle.least, n)
		}
	}
	return [2]part{head, cycle}
}

// sums returns which numbers below n are sums of a member of x and a member of y. The sums of least members have to be
// below n.
func sums(x, y part, n int) []bool {
	l := make([]bool, n)
	for _, i := range x.least {
		for _, j := range y.least {
			l[i+j] = true
		}
	}
	for i := range l {
		l[i] = l[i] || i >= x.step && l[i-x.step] || i >= y.step && l[i-y.step]
	}
	return l
}

// multiple returns the least common multiple of two positive numbers.
func multiple(a, b int) int {
	x, y := a, b
	for y != 0 {
		x, y = y, x%y
	}
	return a / x * b
}
