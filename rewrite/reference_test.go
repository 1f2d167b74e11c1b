package rewrite_test

import (
	"strings"

	"univocal/api"
)

// reference follows the chapter's table; false stands for a rejection.
func reference(o api.Op, b string) (string, bool) {
	old, new := string(o.Old), string(o.New)
	switch o.Kind {
	case api.OpLower:
		return cased(b, 65, 90, 97), true
	case api.OpUpper:
		return cased(b, 97, 122, 65), true
	case api.OpPercent, api.OpPercentLax:
		return decoded(b, o.Kind == api.OpPercentLax)
	case api.OpReplaceFirst:
		if i := strings.Index(b, old); i >= 0 {
			return b[:i] + new + b[i+len(old):], true
		}
		return b, true
	case api.OpReplaceAll:
		if i := strings.Index(b, old); i >= 0 {
			rest, _ := reference(o, b[i+len(old):])
			return b[:i] + new + rest, true
		}
		return b, true
	case api.OpDrop:
		for _, x := range o.Old {
			b = strings.ReplaceAll(b, string([]byte{x}), "")
		}
		return b, true
	}
	for strings.Contains(b, old+old) {
		b = strings.ReplaceAll(b, old+old, old)
	}
	return b, true
}

// cased replaces the bytes from first to last by those from a byte on.
func cased(b string, first, last, by byte) string {
	for i := first; i <= last; i++ {
		b = strings.ReplaceAll(b, string([]byte{i}), string([]byte{by + i - first}))
	}
	return b
}

// decoded goes through b index by index.
func decoded(b string, lax bool) (string, bool) {
	value := map[byte]byte{}
	for i, x := range []byte("0123456789abcdef") {
		value[x], value[strings.ToUpper(string(rune(x)))[0]] = byte(i), byte(i)
	}
	var out []byte
	for i := 0; i < len(b); {
		if b[i] == 37 && i+2 < len(b) {
			first, some := value[b[i+1]]
			second, both := value[b[i+2]]
			if some && both {
				out = append(out, 16*first+second)
				i += 3
				continue
			}
		}
		if b[i] == 37 && !lax {
			return "", false
		}
		out = append(out, b[i])
		i++
	}
	return string(out), true
}
