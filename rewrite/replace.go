package rewrite

import (
	"bytes"
	"iter"
	"slices"

	"univocal/api"
)

// occurrences enumerates where old, which is not empty, occurs in b: the first index, then the first one behind that
// occurrence, and so on.
func occurrences(old, b []byte) iter.Seq[int] {
	return func(yield func(int) bool) {
		for from := 0; ; from += len(old) {
			i := bytes.Index(b[from:], old)
			if i < 0 || !yield(from+i) {
				return
			}
			from += i
		}
	}
}

// replacement returns the kind that replaces all occurrences of Old, or the first one.
func replacement(all bool) kind {
	return kind{
		least: 1,
		most:  4,
		added: 4,
		do: func(o api.Op, b []byte) ([]byte, bool) {
			var out []byte
			end := 0
			for i := range occurrences(o.Old, b) {
				out = append(out, b[end:i]...)
				out = append(out, o.New...)
				end = i + len(o.Old)
				if !all {
					break
				}
			}
			return append(out, b[end:]...), true
		},
		machine: func(o api.Op) api.Transducer {
			var states []state
			for held := range o.Old {
				states = append(states, state{move: searching(o, held, all), final: true, end: o.Old[:held]})
			}
			if !all {
				states = append(states, state{move: func(byte) api.Move { return pass(len(o.Old)) }, final: true})
			}
			return assemble(singles(o.Old...), states...)
		},
	}
}

// searching returns the moves of the state in which the first held bytes of Old are held back, because an occurrence may
// begin with them. Behind the first occurrence, the state len(Old) passes all bytes unless all of them are replaced.
func searching(o api.Op, held int, all bool) func(x byte) api.Move {
	behind := len(o.Old)
	if all {
		behind = 0
	}
	return func(x byte) api.Move {
		read := append(slices.Clone(o.Old[:held]), x)
		if bytes.Equal(read, o.Old) {
			return to(behind, written(o.New...)...)
		}
		free := 0
		for !bytes.HasPrefix(o.Old, read[free:]) {
			free++
		}
		if free == len(read) {
			return pass(0, read[:held]...)
		}
		return to(len(read)-free, written(read[:free]...)...)
	}
}
