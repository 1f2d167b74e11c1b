package transducer

import (
	"bytes"

	"univocal/api"
	"univocal/scope"
)

// Apart returns the least word of a scope for which two transducers differ.
func Apart(t, u api.Transducer, s api.Scope) ([]byte, bool, api.Errno) {
	if !Valid(t) || !Valid(u) {
		return nil, false, api.ErrArg
	}
	if err := scope.Check(s); err != api.OK {
		return nil, false, err
	}
	for w := range scope.Words(s) {
		x, some := output(t, 0, w)
		y, other := output(u, 0, w)
		if some != other || !bytes.Equal(x, y) {
			return w, true, api.OK
		}
	}
	return nil, false, api.OK
}
