package rewrite_test

import (
	"strings"
	"testing"

	"univocal/api"
	"univocal/automaton"
	"univocal/language"
	"univocal/regex"
	"univocal/rewrite"
	"univocal/transducer"
)

// P8.1, P8.2, H4: transducers have the results of their operations as outputs, and none where these reject.
func TestMachine(t *testing.T) {
	for _, o := range samples() {
		m := machine(t, o)
		for _, w := range inputs(o) {
			out, ok := transducer.Run(m, []byte(w))
			if want, some := done(o, w); string(out) != want || ok != some {
				t.Fatalf("%v of %q: %s, want %s", o, w, text(string(out), ok), text(want, some))
			}
		}
	}
}

// P8.1, P8.2, H4: replacements of all words Old over two bytes, which overlap themselves in all ways.
func TestMachineReplacements(t *testing.T) {
	l := words("abc", 6)
	for _, old := range words("ab", 4)[1:] {
		for kind := api.OpReplaceFirst; kind <= api.OpReplaceAll; kind++ {
			o := op(kind, old, "ba")
			m := machine(t, o)
			for _, w := range l {
				out, ok := transducer.Run(m, []byte(w))
				if want, _ := reference(o, w); !ok || string(out) != want {
					t.Fatalf("%v of %q: %s, want %q", o, w, text(string(out), ok), want)
				}
			}
		}
	}
}

// P8.1, P8.2, H4: all percent sequences, and all bytes 37 with two bytes that are none.
func TestMachinePercent(t *testing.T) {
	for kind := api.OpPercent; kind <= api.OpPercentLax; kind++ {
		m := machine(t, simple(kind))
		for x := range 1 << 16 {
			w := string([]byte{'%', byte(x >> 8), byte(x)})
			out, ok := transducer.Run(m, []byte(w))
			got, some := done(simple(kind), w)
			want, either := reference(simple(kind), w)
			if string(out) != want || ok != either || got != want || some != either {
				t.Fatalf("%q: %s and %s, want %s", w, text(string(out), ok), text(got, some), text(want, either))
			}
		}
	}
}

// P8.1, H4: the longest Old and New.
func TestMachineLongest(t *testing.T) {
	for kind := api.OpReplaceFirst; kind <= api.OpReplaceAll; kind++ {
		o := op(kind, "\x00\xff\x00\xff", "wxyz")
		m := machine(t, o)
		for _, w := range []string{"\x00\xff\x00\x00\xff\x00\xff\x00\xff\x00\xff", "\x00\xff\x00", "\x00\xff\x00a\xff"} {
			out, ok := transducer.Run(m, []byte(w))
			if want, _ := reference(o, w); !ok || string(out) != want {
				t.Errorf("%v of %q: %s, want %q", o, w, text(string(out), ok), want)
			}
		}
	}
	m := machine(t, op(api.OpDrop, "abcdefgh", ""))
	if out, ok := transducer.Run(m, []byte("xabcdefghi")); !ok || string(out) != "xi" {
		t.Errorf("drop: %s", text(string(out), ok))
	}
}

// P8.2: the domain contains the words that are not rejected.
func TestMachineDomain(t *testing.T) {
	for _, o := range samples() {
		expression := ".*"
		if o.Kind == api.OpPercent {
			expression = "([^%]|%[0-9a-fA-F]{2,2})*"
		}
		x, _, err := regex.Parse(strings.ReplaceAll(expression, "%", `\x25`))
		if err != api.OK {
			t.Fatal(err)
		}
		want, err := language.Build(x)
		if err != api.OK {
			t.Fatal(err)
		}
		d, err := transducer.Domain(machine(t, o))
		if w, apart := automaton.Apart(d, want); err != api.OK || apart {
			t.Fatalf("%v: %v, %q", o, err, w)
		}
		for _, w := range inputs(o) {
			if _, ok := done(o, w); ok != automaton.Accepts(d, []byte(w)) {
				t.Fatalf("%v: %q", o, w)
			}
		}
	}
}

// P8.2: compositions compute both operations, one after the other.
func TestMachineCompose(t *testing.T) {
	var l []api.Op
	for i, o := range samples() {
		if i < 12 || i%7 == 0 {
			l = append(l, o)
		}
	}
	composed := 0
	for _, o := range l {
		for _, p := range l {
			m, err := transducer.Compose(machine(t, o), machine(t, p))
			if err != api.OK {
				continue
			}
			composed++
			for _, w := range append(words("ab%4", 3), "aabab", "abaab", "%4142", "%25%61", "%2561", "%61%62a", "AbaB", "\xff\x00\x00") {
				want, some := done(o, w)
				if some {
					want, some = done(p, want)
				}
				if out, ok := transducer.Run(m, []byte(w)); string(out) != want || ok != some {
					t.Fatalf("%v, then %v, of %q: %s, want %s", o, p, w, text(string(out), ok), text(want, some))
				}
			}
		}
	}
	if composed < len(l)*len(l)/2 {
		t.Errorf("%d of %d pairs are composed", composed, len(l)*len(l))
	}
}

// H4: these machines have as few states as they can, so that more of what is computed from them is within the limits.
func TestMachineSizes(t *testing.T) {
	for _, c := range []struct {
		o      api.Op
		states int
	}{
		{simple(api.OpLower), 1}, {simple(api.OpUpper), 1}, {simple(api.OpPercent), 18}, {simple(api.OpPercentLax), 24},
		{op(api.OpReplaceFirst, "aaaa", "b"), 5}, {op(api.OpReplaceAll, "aaaa", "b"), 4},
		{op(api.OpDrop, "abcdefgh", ""), 1}, {op(api.OpSqueeze, "a", ""), 2},
	} {
		if m, _ := rewrite.Machine(c.o); len(m.Moves) != c.states {
			t.Errorf("%v: %d states, want %d", c.o, len(m.Moves), c.states)
		}
	}
}
