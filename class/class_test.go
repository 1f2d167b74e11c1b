package class_test

import (
	"bytes"
	"slices"
	"testing"

	"univocal/api"
	"univocal/class"
)

// bitSet reads the representation as the chapter defines it, without the package's own functions.
func bitSet(c api.Class, b int) bool { return c[b/64]&(1<<uint(b%64)) != 0 }

// classOf builds a class from the definition, byte by byte.
func classOf(member func(b int) bool) api.Class {
	var c api.Class
	for b := range 256 {
		if member(b) {
			c[b/64] |= 1 << uint(b%64)
		}
	}
	return c
}

var (
	empty api.Class
	all   = classOf(func(int) bool { return true })
)

// random returns n classes from a fixed sequence of numbers; a class has about half, a quarter or an eighth of the bytes.
func random(n int) []api.Class {
	x := uint64(88172645463325252)
	next := func() uint64 {
		x ^= x << 13
		x ^= x >> 7
		x ^= x << 17
		return x
	}
	var l []api.Class
	for i := range n {
		var c api.Class
		for k := range c {
			c[k] = next()
			for range i % 3 {
				c[k] &= next()
			}
		}
		l = append(l, c)
	}
	return l
}

// samples returns classes of all kinds: empty and full ones, single bytes on both sides of a word, words, and others.
func samples() []api.Class {
	l := []api.Class{empty, all, {^uint64(0)}, {0, ^uint64(0)}, {0, 0, ^uint64(0)}, {0, 0, 0, ^uint64(0)}}
	for _, b := range []int{0, 1, 63, 64, 127, 128, 191, 192, 255} {
		l = append(l, classOf(func(x int) bool { return x == b }))
	}
	l = append(l,
		classOf(func(x int) bool { return x >= 'a' && x <= 'z' }),
		classOf(func(x int) bool { return x >= 60 && x < 70 }),
		classOf(func(x int) bool { return x%2 == 0 }),
		classOf(func(x int) bool { return x%7 == 3 }),
		classOf(func(x int) bool { return x != 255 }),
	)
	return append(l, random(6)...)
}

// lists returns lists of classes: none, empty, repeated and overlapping ones.
func lists() [][]api.Class {
	s := samples()
	l := [][]api.Class{nil, {}, {empty}, {all}, {empty, all, empty}, {s[2]}, {s[2], s[2], s[2]}, s, random(8)}
	for i := 0; i+3 <= len(s); i++ {
		l = append(l, s[i:i+1], s[i:i+3])
	}
	var singles []api.Class
	for b := range 256 {
		singles = append(singles, classOf(func(x int) bool { return x == 255-b }))
	}
	return append(l, singles, singles[100:103])
}

func TestOf(t *testing.T) {
	for _, b := range [][]byte{nil, {}, {0}, {255}, []byte("abca"), {255, 0, 255, 64, 63}, bytes.Repeat([]byte("xy"), 1000)} {
		want := classOf(func(x int) bool { return bytes.IndexByte(b, byte(x)) >= 0 })
		if got := class.Of(b); got != want {
			t.Errorf("Of(%q) = %v, want %v", b, got, want)
		}
	}
	var every []byte
	for b := range 256 {
		every = append(every, byte(b))
		if got := class.Of([]byte{byte(b)}); got != classOf(func(x int) bool { return x == b }) {
			t.Errorf("Of the byte %d = %v", b, got)
		}
	}
	if class.Of(every) != all {
		t.Error("Of all bytes is not the class of all bytes")
	}
}

func TestRange(t *testing.T) {
	for lo := range 256 {
		for hi := range 256 {
			want := classOf(func(x int) bool { return lo <= x && x <= hi })
			if got := class.Range(byte(lo), byte(hi)); got != want {
				t.Fatalf("Range(%d, %d) = %v, want %v", lo, hi, got, want)
			}
		}
	}
}

func TestHas(t *testing.T) {
	for _, c := range samples() {
		for b := range 256 {
			if got := class.Has(c, byte(b)); got != bitSet(c, b) {
				t.Errorf("Has(%v, %d) = %v", c, b, got)
			}
		}
	}
}

func TestSizeLeastBytes(t *testing.T) {
	for _, c := range samples() {
		var want []byte
		for b := range 256 {
			if bitSet(c, b) {
				want = append(want, byte(b))
			}
		}
		least := -1
		if len(want) > 0 {
			least = int(want[0])
		}
		if got := class.Bytes(c); !bytes.Equal(got, want) {
			t.Errorf("Bytes(%v) = %v, want %v", c, got, want)
		}
		if got := class.Size(c); got != len(want) {
			t.Errorf("Size(%v) = %d, want %d", c, got, len(want))
		}
		if got := class.Least(c); got != least {
			t.Errorf("Least(%v) = %d, want %d", c, got, least)
		}
	}
}

func TestIndex(t *testing.T) {
	abc, bcd := class.Range('a', 'c'), class.Range('b', 'd')
	for _, c := range []struct {
		cells []api.Class
		b     byte
		want  int
	}{
		{nil, 0, -1},
		{[]api.Class{}, 255, -1},
		{[]api.Class{empty, empty}, 'a', -1},
		{[]api.Class{abc, bcd}, 'z', -1},
		{[]api.Class{abc, bcd}, 'c', 0}, // the first of several
		{[]api.Class{empty, bcd, abc, bcd}, 'c', 1},
		{[]api.Class{empty, bcd, abc, bcd}, 'a', 2},
		{[]api.Class{all}, 255, 0},
	} {
		if got := class.Index(c.cells, c.b); got != c.want {
			t.Errorf("Index(%v, %d) = %d, want %d", c.cells, c.b, got, c.want)
		}
	}
}

func TestExamples(t *testing.T) {
	c := class.Of([]byte("abca"))
	if !class.Has(c, 97) || !class.Has(c, 98) || !class.Has(c, 99) || class.Has(c, 100) {
		t.Error("example 1: members")
	}
	if class.Size(c) != 3 || class.Least(c) != 97 || string(class.Bytes(c)) != "abc" {
		t.Error("example 1: Size, Least, Bytes")
	}
	if class.Range('a', 'c') != class.Of([]byte("cba")) {
		t.Error("example 2: Range('a', 'c')")
	}
	if r := class.Range('c', 'a'); r != empty || class.Least(r) != -1 || len(class.Bytes(r)) != 0 || class.Size(r) != 0 {
		t.Error("example 2: Range('c', 'a')")
	}
	if class.Size(class.Range(0, 255)) != 256 {
		t.Error("example 2: Range(0, 255)")
	}
	cells := class.Cells([]api.Class{class.Range('a', 'c'), class.Range('b', 'd')})
	want := []api.Class{class.Not(class.Range('a', 'd')), class.Of([]byte("a")), class.Of([]byte("bc")), class.Of([]byte("d"))}
	if !slices.Equal(cells, want) {
		t.Errorf("example 3: cells %v", cells)
	}
	if class.Index(cells, 'c') != 2 || class.Index(cells, 'z') != 0 || class.Index(nil, 'c') != -1 {
		t.Error("example 3: Index")
	}
}

// TestBooleanAlgebra checks P1.2 by Huntington's laws and the more familiar ones.
func TestBooleanAlgebra(t *testing.T) {
	or, and, not := class.Union, class.Intersect, class.Not
	for _, a := range samples() {
		if or(a, empty) != a || and(a, all) != a || or(a, all) != all || and(a, empty) != empty {
			t.Errorf("neutral elements: %v", a)
		}
		if or(a, not(a)) != all || and(a, not(a)) != empty || not(not(a)) != a || or(a, a) != a || and(a, a) != a {
			t.Errorf("complement and idempotence: %v", a)
		}
		for _, b := range samples() {
			if or(a, b) != or(b, a) || and(a, b) != and(b, a) {
				t.Errorf("commutativity: %v, %v", a, b)
			}
			if or(a, and(a, b)) != a || and(a, or(a, b)) != a {
				t.Errorf("absorption: %v, %v", a, b)
			}
			if not(or(a, b)) != and(not(a), not(b)) || not(and(a, b)) != or(not(a), not(b)) {
				t.Errorf("De Morgan's laws: %v, %v", a, b)
			}
			if class.Minus(a, b) != and(a, not(b)) {
				t.Errorf("Minus: %v, %v", a, b)
			}
			for _, c := range samples() {
				if or(a, or(b, c)) != or(or(a, b), c) || and(a, and(b, c)) != and(and(a, b), c) {
					t.Fatalf("associativity: %v, %v, %v", a, b, c)
				}
				if or(a, and(b, c)) != and(or(a, b), or(a, c)) || and(a, or(b, c)) != or(and(a, b), and(a, c)) {
					t.Fatalf("distributivity: %v, %v, %v", a, b, c)
				}
			}
		}
	}
	if not(empty) != all || not(all) != empty {
		t.Error("the complements of no byte and of all bytes")
	}
}

// TestMembership checks P1.3.
func TestMembership(t *testing.T) {
	for _, a := range samples() {
		for _, b := range samples() {
			union, both, minus, not := class.Union(a, b), class.Intersect(a, b), class.Minus(a, b), class.Not(a)
			for x := range 256 {
				inA, inB := bitSet(a, x), bitSet(b, x)
				if class.Has(union, byte(x)) != (inA || inB) || class.Has(both, byte(x)) != (inA && inB) ||
					class.Has(minus, byte(x)) != (inA && !inB) || class.Has(not, byte(x)) == inA {
					t.Fatalf("byte %d in combinations of %v and %v", x, a, b)
				}
			}
		}
	}
}

// TestEnumeration checks P1.4.
func TestEnumeration(t *testing.T) {
	for _, c := range samples() {
		b := class.Bytes(c)
		if class.Of(b) != c {
			t.Errorf("Of(Bytes(%v)) = %v", c, class.Of(b))
		}
		for i := 1; i < len(b); i++ {
			if b[i-1] >= b[i] {
				t.Errorf("Bytes(%v): %d before %d", c, b[i-1], b[i])
			}
		}
	}
	for _, s := range []string{"", "a", "abca", "zyx\x00\xff\x00@?", "hello, world"} {
		want := []byte(s)
		slices.Sort(want)
		want = slices.Compact(want)
		if got := class.Bytes(class.Of([]byte(s))); !bytes.Equal(got, want) {
			t.Errorf("Bytes(Of(%q)) = %q, want %q", s, got, want)
		}
	}
}

// TestCounting checks P1.5.
func TestCounting(t *testing.T) {
	for _, a := range samples() {
		if n := class.Size(a) + class.Size(class.Not(a)); n != 256 {
			t.Errorf("%v and its complement have %d members", a, n)
		}
		for _, b := range samples() {
			if class.Size(class.Union(a, b))+class.Size(class.Intersect(a, b)) != class.Size(a)+class.Size(b) {
				t.Errorf("sizes of %v and %v", a, b)
			}
		}
	}
}

// sameMember reports whether two bytes are members of the same elements of l.
func sameMember(l []api.Class, a, b int) bool {
	for _, c := range l {
		if bitSet(c, a) != bitSet(c, b) {
			return false
		}
	}
	return true
}

// TestPartition checks P1.6 and the order of the cells.
func TestPartition(t *testing.T) {
	for i, l := range lists() {
		cells := class.Cells(l)
		cellOf := make([]int, 256)
		for b := range 256 {
			var in []int
			for k, cell := range cells {
				if bitSet(cell, b) {
					in = append(in, k)
				}
			}
			if len(in) != 1 {
				t.Fatalf("list %d: byte %d is in the cells %v", i, b, in)
			}
			cellOf[b] = in[0]
			if class.Index(cells, byte(b)) != in[0] {
				t.Fatalf("list %d: Index of the byte %d", i, b)
			}
		}
		// Equal cells for equal memberships make it coarsest, different ones make every class a union of cells.
		for a := range 256 {
			for b := range a {
				if (cellOf[a] == cellOf[b]) != sameMember(l, a, b) {
					t.Fatalf("list %d: bytes %d and %d", i, a, b)
				}
			}
		}
		for k, cell := range cells {
			if cell == empty {
				t.Fatalf("list %d: cell %d is empty", i, k)
			}
			if k > 0 && class.Least(cells[k-1]) >= class.Least(cell) {
				t.Fatalf("list %d: cell %d is not in order", i, k)
			}
		}
		for _, c := range l {
			var union api.Class
			for _, cell := range cells {
				if class.Intersect(cell, c) != empty {
					union = class.Union(union, cell)
				}
			}
			if union != c {
				t.Fatalf("list %d: %v is not a union of cells", i, c)
			}
		}
	}
}

func TestCellsOfNoClasses(t *testing.T) {
	for _, l := range [][]api.Class{nil, {}, {empty}, {all}, {all, empty, all}} {
		if cells := class.Cells(l); !slices.Equal(cells, []api.Class{all}) {
			t.Errorf("Cells(%v) = %v", l, cells)
		}
	}
}

// TestStability checks P1.7.
func TestStability(t *testing.T) {
	for i, l := range lists() {
		want := class.Cells(l)
		check := func(what string, changed []api.Class) {
			if !slices.Equal(class.Cells(changed), want) {
				t.Errorf("list %d: the cells change with %s", i, what)
			}
		}
		reversed := slices.Clone(l)
		slices.Reverse(reversed)
		check("the order", reversed)
		check("repeated elements", slices.Concat(l, reversed, l))
		var inverted, sum []api.Class
		for k, c := range l {
			inverted = append(inverted, class.Not(c))
			next := l[(k+1)%len(l)]
			sum = append(sum, class.Union(c, next), class.Intersect(c, next), class.Minus(c, next), class.Not(next))
		}
		check("complements", inverted)
		check("complements of some elements", slices.Concat(inverted[:len(l)/2], l[len(l)/2:]))
		check("combinations at the end", slices.Concat(l, sum))
		check("combinations at the beginning", slices.Concat(sum, l))
		check("empty and full elements", slices.Concat([]api.Class{empty, all}, l))
		check("its own cells", want)
		if len(l) > 1 {
			check("another first element", slices.Concat(l[1:], l[:1]))
		}
	}
}

// TestRanges checks P1.8.
func TestRanges(t *testing.T) {
	for _, lo := range []int{0, 1, 63, 64, 97, 200, 255} {
		for hi := lo; hi < 256; hi++ {
			whole := class.Range(byte(lo), byte(hi))
			var union api.Class
			for mid := lo; mid <= hi; mid++ {
				union = class.Union(union, class.Of([]byte{byte(mid)}))
				if mid < hi && class.Union(class.Range(byte(lo), byte(mid)), class.Range(byte(mid+1), byte(hi))) != whole {
					t.Fatalf("Range(%d, %d) is not the union of its parts at %d", lo, hi, mid)
				}
			}
			if union != whole {
				t.Fatalf("Range(%d, %d) is not the union of its bytes", lo, hi)
			}
			if lo < hi && class.Range(byte(hi), byte(lo)) != empty {
				t.Fatalf("Range(%d, %d) is not empty", hi, lo)
			}
		}
	}
}

// TestArgumentsAndResults checks P1 and P2 of the document for the functions with slices: they keep to the arguments,
// leave them as they are, and return new memory.
func TestArgumentsAndResults(t *testing.T) {
	b := []byte("abca")
	class.Of(b)
	if string(b) != "abca" {
		t.Error("Of modifies its argument")
	}
	l := append(samples(), all, empty)
	before := slices.Clone(l)
	first, again := class.Cells(l[:4]), class.Cells(l[:4])
	class.Cells(l)
	class.Index(l, 'a')
	if !slices.Equal(l, before) {
		t.Error("Cells or Index modifies its argument")
	}
	want := slices.Clone(first)
	clear(again)
	if !slices.Equal(first, want) || !slices.Equal(class.Cells(l[:4]), want) || !slices.Equal(l, before) {
		t.Error("results of Cells share memory")
	}
	one := []api.Class{all}
	cells := class.Cells(one)
	cells[0] = empty
	if one[0] != all {
		t.Error("the result of Cells shares memory with its argument")
	}
	x, y := class.Bytes(l[2]), class.Bytes(l[2])
	clear(x[:cap(x)])
	if class.Of(y) != l[2] || class.Of(class.Bytes(l[2])) != l[2] {
		t.Error("results of Bytes share memory")
	}
}
