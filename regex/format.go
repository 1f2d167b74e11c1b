package regex

import (
	"slices"
	"strconv"

	"univocal/api"
	"univocal/class"
)

// Format returns the canonical text of an expression.
func Format(x api.Regex) (string, api.Errno) {
	if err := Valid(x); err != api.OK {
		return "", err
	}
	s := text(x, len(x)-1)
	if len(s) > api.MaxText {
		return "", api.ErrBig
	}
	return s, api.OK
}

// text returns the canonical text of node i.
func text(x api.Regex, i int) string {
	n := x[i]
	// An operand needs parentheses if it is of one of the kinds.
	operand := func(j int, kinds ...int) string {
		if slices.Contains(kinds, x[j].Kind) {
			return "(" + text(x, j) + ")"
		}
		return text(x, j)
	}
	switch n.Kind {
	case api.RxNone:
		return "!"
	case api.RxEmpty:
		return "()"
	case api.RxClass:
		return classText(n.C)
	case api.RxConcat:
		return operand(n.L, api.RxAlt, api.RxAnd) + operand(n.R, api.RxConcat, api.RxAlt, api.RxAnd)
	case api.RxAlt:
		return operand(n.L) + "|" + operand(n.R, api.RxAlt)
	case api.RxAnd:
		return operand(n.L, api.RxAlt) + "&" + operand(n.R, api.RxAlt, api.RxAnd)
	case api.RxNot:
		return "~" + operand(n.L, api.RxConcat, api.RxAlt, api.RxAnd)
	}
	return operand(n.L, api.RxConcat, api.RxAlt, api.RxAnd, api.RxNot) + repeatText(n.Min, n.Max)
}

// repeatText returns the text of a repetition with the given bounds.
func repeatText(least, most int) string {
	switch [2]int{least, most} {
	case [2]int{0, -1}:
		return "*"
	case [2]int{1, -1}:
		return "+"
	case [2]int{0, 1}:
		return "?"
	}
	if most == -1 {
		return "{" + strconv.Itoa(least) + ",}"
	}
	return "{" + strconv.Itoa(least) + "," + strconv.Itoa(most) + "}"
}

// classText returns the text of a class.
func classText(c api.Class) string {
	members := class.Bytes(c)
	switch len(members) {
	case 256:
		return "."
	case 1:
		return charText(members[0])
	}
	s := "["
	for from := 0; from < len(members); {
		to := from + 1
		for to < len(members) && members[to] == members[to-1]+1 {
			to++
		}
		s += runText(members[from], members[to-1])
		from = to
	}
	return s + "]"
}

// runText returns the text of the run of bytes from first to last in a class.
func runText(first, last byte) string {
	switch last - first {
	case 0:
		return charText(first)
	case 1:
		return charText(first) + charText(last)
	}
	return charText(first) + "-" + charText(last)
}

// charText returns the text of a byte.
func charText(b byte) string {
	if plain(b) {
		return string(rune(b))
	}
	const hexDigits = "0123456789abcdef"
	return `\x` + hexDigits[b>>4:b>>4+1] + hexDigits[b&15:b&15+1]
}
