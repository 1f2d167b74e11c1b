package rewrite

import (
	"univocal/api"
	"univocal/class"
)

// drop returns the kind that removes the bytes of Old.
func drop() kind {
	return kind{
		least: 1,
		most:  8,
		do: func(o api.Op, b []byte) ([]byte, bool) {
			c := class.Of(o.Old)
			var out []byte
			for _, x := range b {
				if !class.Has(c, x) {
					out = append(out, x)
				}
			}
			return out, true
		},
		machine: func(o api.Op) api.Transducer {
			c := class.Of(o.Old)
			move := func(x byte) api.Move {
				if class.Has(c, x) {
					return to(0)
				}
				return pass(0)
			}
			return assemble([]api.Class{c}, state{move: move, final: true})
		},
	}
}

// squeeze returns the kind that leaves one byte of each run of Old.
func squeeze() kind {
	return kind{
		least: 1,
		most:  1,
		do: func(o api.Op, b []byte) ([]byte, bool) {
			var out []byte
			for i, x := range b {
				if x != o.Old[0] || i == 0 || b[i-1] != x {
					out = append(out, x)
				}
			}
			return out, true
		},
		machine: func(o api.Op) api.Transducer {
			// State 1 is the one inside of a run.
			outside := func(x byte) api.Move {
				if x == o.Old[0] {
					return pass(1)
				}
				return pass(0)
			}
			inside := func(x byte) api.Move {
				if x == o.Old[0] {
					return to(1)
				}
				return pass(0)
			}
			return assemble(singles(o.Old...), state{move: outside, final: true}, state{move: inside, final: true})
		},
	}
}
