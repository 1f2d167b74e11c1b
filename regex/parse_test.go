package regex_test

import (
	"reflect"
	"slices"
	"strings"
	"testing"

	"univocal/api"
	"univocal/regex"
)

// Nodes that many expressions have.
var (
	a   = byteOf("a")
	b   = byteOf("b")
	c   = byteOf("c")
	dot = api.RegexNode{Kind: api.RxClass, C: allBytes}
)

// expressions maps texts to their expressions.
var expressions = map[string]api.Regex{
	"a":        {a},
	".":        {dot},
	"!":        {node(api.RxNone, 0, 0)},
	"()":       {node(api.RxEmpty, 0, 0)},
	"(a)":      {a},
	"((()))":   {node(api.RxEmpty, 0, 0)},
	`\x61`:     {a},
	`\x6A`:     {byteOf("j")},
	`\x6a`:     {byteOf("j")},
	`\xfF`:     {byteOf("\xff")},
	`\x00`:     {byteOf("\x00")},
	"#":        {byteOf("#")},
	",":        {byteOf(",")},
	"0":        {byteOf("0")},
	"[]":       {byteOf("")},
	"[^]":      {dot},
	"[a]":      {a},
	"[aa]":     {a},
	"[ca]":     {byteOf("ac")},
	"[a-a]":    {a},
	"[a-d]":    {byteOf("abcd")},
	"[a-bd-e]": {byteOf("abde")},
	"[a-cb-d]": {byteOf("abcd")},
	`[\x2d]`:   {byteOf("-")},
	`[\x2d-0]`: {byteOf("-./0")},
	`[,-\x2e]`: {byteOf(",-.")},
	`[a-c\x2d]+`: {byteOf("abc-"),
		repeat(0, 1, -1)},
	`[^\x00-\x60\x62-\xff]`: {a},
	`[\x00-\xff]`:           {dot},
	"a*":                    {a, repeat(0, 0, -1)},
	"a+":                    {a, repeat(0, 1, -1)},
	"a?":                    {a, repeat(0, 0, 1)},
	"a{0,0}":                {a, repeat(0, 0, 0)},
	"a{0,}":                 {a, repeat(0, 0, -1)},
	"a{3,}":                 {a, repeat(0, 3, -1)},
	"a{3,3}":                {a, repeat(0, 3, 3)},
	"a{9,16}":               {a, repeat(0, 9, 16)},
	"a{16,16}":              {a, repeat(0, 16, 16)},
	"a*+?":                  {a, repeat(0, 0, -1), repeat(1, 1, -1), repeat(2, 0, 1)},
	"()*":                   {node(api.RxEmpty, 0, 0), repeat(0, 0, -1)},
	"!{2,5}{1,}":            {node(api.RxNone, 0, 0), repeat(0, 2, 5), repeat(1, 1, -1)},
	"~a":                    {a, node(api.RxNot, 0, 0)},
	"~~a":                   {a, node(api.RxNot, 0, 0), node(api.RxNot, 1, 0)},
	"~a*":                   {a, repeat(0, 0, -1), node(api.RxNot, 1, 0)},
	"(~a)*":                 {a, node(api.RxNot, 0, 0), repeat(1, 0, -1)},
	"ab":                    {a, b, node(api.RxConcat, 0, 1)},
	"abc":                   {a, b, node(api.RxConcat, 0, 1), c, node(api.RxConcat, 2, 3)},
	"a(bc)":                 {a, b, c, node(api.RxConcat, 1, 2), node(api.RxConcat, 0, 3)},
	"~ab":                   {a, node(api.RxNot, 0, 0), b, node(api.RxConcat, 1, 2)},
	"a~b":                   {a, b, node(api.RxNot, 1, 0), node(api.RxConcat, 0, 2)},
	"ab*":                   {a, b, repeat(1, 0, -1), node(api.RxConcat, 0, 2)},
	"a|b*":                  {a, b, repeat(1, 0, -1), node(api.RxAlt, 0, 2)},
	"a|b|c":                 {a, b, node(api.RxAlt, 0, 1), c, node(api.RxAlt, 2, 3)},
	"a|(b|c)":               {a, b, c, node(api.RxAlt, 1, 2), node(api.RxAlt, 0, 3)},
	"a&b&c":                 {a, b, node(api.RxAnd, 0, 1), c, node(api.RxAnd, 2, 3)},
	"a|b&c":                 {a, b, c, node(api.RxAnd, 1, 2), node(api.RxAlt, 0, 3)},
	"a&b|c":                 {a, b, node(api.RxAnd, 0, 1), c, node(api.RxAlt, 2, 3)},
	"a&bc":                  {a, b, c, node(api.RxConcat, 1, 2), node(api.RxAnd, 0, 3)},
	"(a|b)c":                {a, b, node(api.RxAlt, 0, 1), c, node(api.RxConcat, 2, 3)},
}

// P2.1, B2: the expressions of texts.
func TestParse(t *testing.T) {
	for s, want := range expressions {
		x, at, err := regex.Parse(s)
		if err != api.OK || at != 0 || !slices.Equal(x, want) {
			t.Errorf("Parse(%q): %v, %d, %v; want %v", s, x, at, err, want)
		}
	}
}

// P2.1, B2: exactly the plain bytes stand for themselves, alone and in a class.
func TestParseBytes(t *testing.T) {
	for i := range 256 {
		s := string([]byte{byte(i)})
		plain := i >= 33 && i <= 126 && !strings.Contains(`!&()*+-.?[\]^{|}~`, s)
		x, _, err := regex.Parse(s)
		if got := err == api.OK && slices.Equal(x, api.Regex{byteOf(s)}); got != plain {
			t.Errorf("Parse(%q): %v, %v", s, x, err)
		}
		x, _, err = regex.Parse("[#" + s + "]")
		if got := err == api.OK && slices.Equal(x, api.Regex{byteOf("#" + s)}); got != plain {
			t.Errorf("Parse(%q): %v, %v", "[#"+s+"]", x, err)
		}
		hex := `\x` + "0123456789abcdef"[i>>4:i>>4+1] + "0123456789ABCDEF"[i&15:i&15+1]
		for _, text := range []string{hex, "[" + hex + "]", "[" + hex + "-" + hex + "]"} {
			if x, at, err := regex.Parse(text); err != api.OK || at != 0 || !slices.Equal(x, api.Regex{byteOf(s)}) {
				t.Errorf("Parse(%q): %v, %d, %v", text, x, at, err)
			}
		}
	}
}

// A failure is an error and its offset.
type failure struct {
	at  int
	err api.Errno
}

// failures maps texts to the errors of Parse.
var failures = map[string]failure{
	// The text ends too early.
	"":        {0, api.ErrEnd},
	"a|":      {2, api.ErrEnd},
	"a&":      {2, api.ErrEnd},
	"~":       {1, api.ErrEnd},
	"(":       {1, api.ErrEnd},
	"(a":      {2, api.ErrEnd},
	"((a)":    {4, api.ErrEnd},
	"[":       {1, api.ErrEnd},
	"[^":      {2, api.ErrEnd},
	"[a":      {2, api.ErrEnd},
	"[a-":     {3, api.ErrEnd},
	"[a-b":    {4, api.ErrEnd},
	`\`:       {1, api.ErrEnd},
	`\x`:      {2, api.ErrEnd},
	`\x4`:     {3, api.ErrEnd},
	`[b-\`:    {4, api.ErrEnd},
	`[b-\x6`:  {6, api.ErrEnd},
	`[b-\x4`:  {6, api.ErrEnd},
	"a{":      {2, api.ErrEnd},
	"a{3":     {3, api.ErrEnd},
	"a{3,":    {4, api.ErrEnd},
	"a{3,4":   {5, api.ErrEnd},
	"a{0":     {3, api.ErrEnd},
	"a{1,16":  {6, api.ErrEnd},
	"a{16,16": {7, api.ErrEnd},
	// A byte with which no text continues.
	"|":         {0, api.ErrToken},
	"a||b":      {2, api.ErrToken},
	"a|&b":      {2, api.ErrToken},
	"a&|b":      {2, api.ErrToken},
	"|a":        {0, api.ErrToken},
	"*":         {0, api.ErrToken},
	"a|*":       {2, api.ErrToken},
	"~*":        {1, api.ErrToken},
	"~|a":       {1, api.ErrToken},
	"a)":        {1, api.ErrToken},
	")":         {0, api.ErrToken},
	"(|a)":      {1, api.ErrToken},
	"(a|)":      {3, api.ErrToken},
	"(a))":      {3, api.ErrToken},
	"(a]":       {2, api.ErrToken},
	"a]":        {1, api.ErrToken},
	"a}":        {1, api.ErrToken},
	"a-b":       {1, api.ErrToken},
	"-":         {0, api.ErrToken},
	"a^":        {1, api.ErrToken},
	"a b":       {1, api.ErrToken},
	" a":        {0, api.ErrToken},
	"a\n":       {1, api.ErrToken},
	"\x00":      {0, api.ErrToken},
	"a\x7f":     {1, api.ErrToken},
	"\xff":      {0, api.ErrToken},
	"é":         {0, api.ErrToken},
	`\n`:        {1, api.ErrToken},
	`\X41`:      {1, api.ErrToken},
	`\xg0`:      {2, api.ErrToken},
	`\x4g`:      {3, api.ErrToken},
	`\x4` + "`": {3, api.ErrToken},
	`\x4@`:      {3, api.ErrToken},
	`\x4/`:      {3, api.ErrToken},
	`\x4:`:      {3, api.ErrToken},
	`\x4G`:      {3, api.ErrToken},
	"[[]":       {1, api.ErrToken},
	"[^^]":      {2, api.ErrToken},
	"[a^]":      {2, api.ErrToken},
	"[.]":       {1, api.ErrToken},
	"[-]":       {1, api.ErrToken},
	"[-a]":      {1, api.ErrToken},
	"[a-]":      {3, api.ErrToken},
	"[a--]":     {3, api.ErrToken},
	"[a-b-c]":   {4, api.ErrToken},
	"[]a]":      {3, api.ErrToken},
	"[a b]":     {2, api.ErrToken},
	"a{}":       {2, api.ErrToken},
	"a{,3}":     {2, api.ErrToken},
	"a{x}":      {2, api.ErrToken},
	"a{-1,}":    {2, api.ErrToken},
	"a{3}":      {3, api.ErrToken},
	"a{3 ,}":    {3, api.ErrToken},
	"a{03,}":    {3, api.ErrToken},
	"a{00,}":    {3, api.ErrToken},
	"a{3,,}":    {4, api.ErrToken},
	"a{3,x}":    {4, api.ErrToken},
	"a{3,4,}":   {5, api.ErrToken},
	"a{0,01}":   {5, api.ErrToken},
	"{0,1}":     {0, api.ErrToken},
	"a{/,}":     {2, api.ErrToken},
	"a{:,}":     {2, api.ErrToken},
	// The second char of a pair is less than the first one.
	"[b-a]":         {3, api.ErrToken},
	"[b-a":          {3, api.ErrToken},
	`[b-\x61]`:      {3, api.ErrToken},
	`[b-\x61`:       {3, api.ErrToken},
	`[b-\x6g]`:      {6, api.ErrToken},
	`[\xff-\xfe]`:   {6, api.ErrToken},
	`[^xz-yab-a]`:   {5, api.ErrToken},
	"[b-a]|":        {3, api.ErrToken},
	"[b-a\x00":      {3, api.ErrToken},
	"a{2,1}[b-a]":   {4, api.ErrToken},
	"[b-a]x{17,17}": {3, api.ErrToken},
	// Numbers.
	"a{17,}":                      {2, api.ErrBig},
	"a{17":                        {2, api.ErrBig},
	"a{17x":                       {2, api.ErrBig},
	"a{160,}":                     {2, api.ErrBig},
	"a{99999999999999999999999,}": {2, api.ErrBig},
	"a{1,18446744073709551617}":   {4, api.ErrBig},
	"a{1,18446744073709551617":    {4, api.ErrBig},
	"a{17,3}":                     {2, api.ErrBig},
	"a{3,17}":                     {4, api.ErrBig},
	"a{3,20":                      {4, api.ErrBig},
	"a{3,2}":                      {4, api.ErrToken},
	"a{3,2":                       {4, api.ErrToken},
	"a{3,2x":                      {4, api.ErrToken},
	"a{3,1x":                      {4, api.ErrToken},
	"a{1,0}":                      {4, api.ErrToken},
	"a{1,01}":                     {4, api.ErrToken},
	"a{16,15}":                    {5, api.ErrToken},
	"(a{3,2}":                     {5, api.ErrToken},
	"b{1,2}a{3,2}|":               {10, api.ErrToken},
}

// P2.1, B2: errors and their offsets.
func TestParseErrors(t *testing.T) {
	for s, want := range failures {
		x, at, err := regex.Parse(s)
		if x != nil || at != want.at || err != want.err {
			t.Errorf("Parse(%q): %v, %d, %v; want %d, %v", s, x, at, err, want.at, want.err)
		}
	}
}

// P2.1, B2: the limits of the text and of the nodes.
func TestParseLimits(t *testing.T) {
	for i, c := range []struct {
		s   string
		at  int
		err api.Errno
	}{
		{strings.Repeat("a", 100), 0, api.OK},
		{strings.Repeat("~", 199) + "a", 0, api.OK},
		{strings.Repeat("~", 200) + "a", 201, api.ErrBig},
		{strings.Repeat("a", 101), 101, api.ErrBig},
		{strings.Repeat("a", 101) + "|", 102, api.ErrEnd},
		{strings.Repeat("a", 101) + ")", 101, api.ErrToken},
		{strings.Repeat("a", 4000), 4000, api.ErrBig},
		{strings.Repeat("a", 3999) + "|", 4000, api.ErrEnd},
		{strings.Repeat("a", 3999) + ")", 3999, api.ErrToken},
		{strings.Repeat("a", 4001), 0, api.ErrBig},
		{strings.Repeat("|", 4001), 0, api.ErrBig},
		{strings.Repeat("|", 4000), 0, api.ErrToken},
		{strings.Repeat("(", 1999) + "()" + strings.Repeat(")", 1999), 0, api.OK},
		{strings.Repeat("(", 4000), 4000, api.ErrEnd},
		{strings.Repeat("[", 4000), 1, api.ErrToken},
		{strings.Repeat("~", 4000), 4000, api.ErrEnd},
		{"[" + strings.Repeat("a", 3998) + "]", 0, api.OK},
		{"a" + strings.Repeat("*", 199), 0, api.OK},
		{"a" + strings.Repeat("*", 200), 201, api.ErrBig},
	} {
		x, at, err := regex.Parse(c.s)
		if at != c.at || err != c.err || (x != nil) != (err == api.OK) {
			t.Errorf("case %d: %d nodes, %d, %v; want %d, %v", i, len(x), at, err, c.at, c.err)
		}
	}
}

// viable reports whether some text begins with s: s is right, or it only ends too early.
func viable(s string) bool {
	_, at, err := regex.Parse(s)
	return err == api.OK || err == api.ErrEnd && at == len(s)
}

// P2.1, B2: an error is at the least offset, and nothing that comes after it changes it.
func TestParseOffsets(t *testing.T) {
	s := sequence()
	const signs = `ab|&~*+?()[]^-.!{},\x0126789`
	for range 20000 {
		text := make([]byte, 1+s.next(12))
		for i := range text {
			text[i] = signs[s.next(len(signs))]
		}
		x, at, err := regex.Parse(string(text))
		switch err {
		case api.OK:
			if at != 0 || regex.Valid(x) != api.OK {
				t.Fatalf("%q: %v, %d", text, x, at)
			}
		case api.ErrEnd:
			if x != nil || at != len(text) {
				t.Fatalf("%q: %v, %d", text, x, at)
			}
		default:
			if x != nil || at >= len(text) || !viable(string(text[:at])) {
				t.Fatalf("%q: %v, %d, %v", text, x, at, err)
			}
			// The byte at the offset decides, or the pair or number that begins there.
			end := at + 1
			for viable(string(text[:end])) {
				end++
			}
			if end > at+4 {
				t.Fatalf("%q: %d, %v, but %q can continue", text, at, err, text[:end-1])
			}
			if _, at2, err2 := regex.Parse(string(text) + "a)"); at2 != at || err2 != err {
				t.Fatalf("%q: %d, %v, and with more text %d, %v", text, at, err, at2, err2)
			}
		}
		for k := range text {
			if !viable(string(text[:k])) && viable(string(text)) {
				t.Fatalf("%q can continue, but %q cannot", text, text[:k])
			}
		}
	}
}

// P2: the same text gives the same result, in new memory.
func TestParseNewMemory(t *testing.T) {
	x, y := parsed(t, "a(b|c)*"), parsed(t, "a(b|c)*")
	clear(x)
	if !reflect.DeepEqual(y, parsed(t, "a(b|c)*")) {
		t.Error("two results share memory")
	}
}
