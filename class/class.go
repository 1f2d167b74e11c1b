// Package class is layer 1: sets of bytes as bit sets, and partitions of all bytes into cells. See shared/doc/01-class.md.
package class

import (
	"cmp"
	"iter"
	"math/bits"
	"slices"

	"univocal/api"
)

// Of returns the class of the bytes in b.
func Of(b []byte) api.Class {
	var c api.Class
	for _, x := range b {
		c = with(c, x)
	}
	return c
}

// Range returns the class of the bytes from lo to hi.
func Range(lo, hi byte) api.Class {
	var c api.Class
	// The counter is an int because a byte could not pass a last byte of 255.
	for x := int(lo); x <= int(hi); x++ {
		c = with(c, byte(x))
	}
	return c
}

// with returns c with the further member b.
func with(c api.Class, b byte) api.Class {
	c[b/64] |= 1 << (b % 64)
	return c
}

// Has reports whether a byte is a member.
func Has(c api.Class, b byte) bool { return c[b/64]>>(b%64)&1 == 1 }

// Union returns the union.
func Union(a, b api.Class) api.Class {
	return combine(a, b, func(x, y uint64) uint64 { return x | y })
}

// Intersect returns the intersection.
func Intersect(a, b api.Class) api.Class {
	return combine(a, b, func(x, y uint64) uint64 { return x & y })
}

// Minus returns the members of a that are not members of b.
func Minus(a, b api.Class) api.Class {
	return combine(a, b, func(x, y uint64) uint64 { return x &^ y })
}

// combine returns the class whose words are those of a and b, combined by f.
func combine(a, b api.Class, f func(x, y uint64) uint64) api.Class {
	var c api.Class
	for i := range c {
		c[i] = f(a[i], b[i])
	}
	return c
}

// Not returns the complement.
func Not(c api.Class) api.Class { return Minus(Range(0, 255), c) }

// Size returns the number of members.
func Size(c api.Class) int {
	n := 0
	for _, word := range c {
		n += bits.OnesCount64(word)
	}
	return n
}

// Least returns the least member, or -1.
func Least(c api.Class) int {
	for b := range members(c) {
		return int(b)
	}
	return -1
}

// Bytes returns the members in increasing order.
func Bytes(c api.Class) []byte {
	var l []byte
	for b := range members(c) {
		l = append(l, b)
	}
	return l
}

// members enumerates the members of c in increasing order.
func members(c api.Class) iter.Seq[byte] {
	return func(yield func(byte) bool) {
		for i, word := range c {
			// Clearing the lowest bit of a word leaves the greater members.
			for ; word != 0; word &= word - 1 {
				if !yield(byte(64*i + bits.TrailingZeros64(word))) {
					return
				}
			}
		}
	}
}

// Cells returns the coarsest partition of all bytes in which every class of l is a union of cells.
func Cells(l []api.Class) []api.Class {
	cells := []api.Class{Range(0, 255)}
	for _, c := range l {
		cells = split(cells, c)
	}
	slices.SortFunc(cells, func(a, b api.Class) int { return cmp.Compare(Least(a), Least(b)) })
	return cells
}

// split returns the parts of the cells inside and outside of c that are not empty.
func split(cells []api.Class, c api.Class) []api.Class {
	var parts []api.Class
	for _, cell := range cells {
		for _, part := range []api.Class{Intersect(cell, c), Minus(cell, c)} {
			if part != (api.Class{}) {
				parts = append(parts, part)
			}
		}
	}
	return parts
}

// Index returns the index of the first cell that contains a byte, or -1.
func Index(cells []api.Class, b byte) int {
	return slices.IndexFunc(cells, func(c api.Class) bool { return Has(c, b) })
}
