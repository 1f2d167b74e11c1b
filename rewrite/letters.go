package rewrite

import (
	"bytes"

	"univocal/api"
	"univocal/class"
)

// letters returns the kind that changes the case of the letters in c.
func letters(c api.Class) kind {
	const difference = 'a' - 'A'
	return kind{
		do: func(_ api.Op, b []byte) ([]byte, bool) {
			out := bytes.Clone(b)
			for i, x := range out {
				if class.Has(c, x) {
					out[i] = x ^ difference
				}
			}
			return out, true
		},
		machine: func(api.Op) api.Transducer {
			move := func(x byte) api.Move {
				if class.Has(c, x) {
					return to(0, written(x^difference)...)
				}
				return pass(0)
			}
			return assemble(singles(class.Bytes(c)...), state{move: move, final: true})
		},
	}
}
