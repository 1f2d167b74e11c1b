package regex

import (
	"strings"

	"univocal/api"
	"univocal/class"
)

// special contains the visible bytes that stand for themselves only when they are escaped.
const special = `!&()*+-.?[\]^{|}~`

// plain reports whether a byte stands for itself in a text.
func plain(b byte) bool { return b >= 33 && b <= 126 && strings.IndexByte(special, b) < 0 }

// A failure is the value of the panic by which the parser is left.
type failure struct {
	at  int
	err api.Errno
}

// A parser has read the text s up to the index at; x contains the nodes so far, in postorder.
type parser struct {
	s  string
	at int
	x  api.Regex
}

// Parse parses the text of an expression.
func Parse(s string) (x api.Regex, at int, err api.Errno) {
	if len(s) > api.MaxText {
		return nil, 0, api.ErrBig
	}
	defer func() {
		if f, ok := recover().(failure); ok {
			x, at, err = nil, f.at, f.err
		}
	}()
	p := parser{s: s}
	p.alt()
	if p.at < len(s) {
		panic(failure{p.at, api.ErrToken})
	}
	if len(p.x) > api.MaxRegex {
		panic(failure{len(s), api.ErrBig})
	}
	return p.x, 0, api.OK
}

// next reads a byte, which the grammar requires.
func (p *parser) next() byte {
	if p.at == len(p.s) {
		panic(failure{p.at, api.ErrEnd})
	}
	p.at++
	return p.s[p.at-1]
}

// refuse reports that no text can continue with the byte that was just read.
func (p *parser) refuse() { panic(failure{p.at - 1, api.ErrToken}) }

// take reads the byte b if it comes next.
func (p *parser) take(b byte) bool {
	if p.at == len(p.s) || p.s[p.at] != b {
		return false
	}
	p.at++
	return true
}

// expect reads the byte b, which the grammar requires.
func (p *parser) expect(b byte) {
	if p.next() != b {
		p.refuse()
	}
}

// add appends a node and returns its index.
func (p *parser) add(n api.RegexNode) int {
	p.x = append(p.x, n)
	return len(p.x) - 1
}

// chain reads operands as long as another one follows, joins them from the left by nodes of a kind, and returns the index
// of the last node; operand and more read what they are named after.
func (p *parser) chain(kind int, operand func() int, more func() bool) int {
	l := operand()
	for more() {
		r := operand()
		l = p.add(api.RegexNode{Kind: kind, L: l, R: r})
	}
	return l
}

func (p *parser) alt() int {
	return p.chain(api.RxAlt, p.and, func() bool { return p.take('|') })
}

func (p *parser) and() int {
	return p.chain(api.RxAnd, p.cat, func() bool { return p.take('&') })
}

func (p *parser) cat() int { return p.chain(api.RxConcat, p.item, p.atItem) }

// atItem reports whether an item can begin with the next byte.
func (p *parser) atItem() bool {
	return p.at < len(p.s) && (plain(p.s[p.at]) || strings.IndexByte(`~.!([\`, p.s[p.at]) >= 0)
}

func (p *parser) item() int {
	if p.take('~') {
		l := p.item()
		return p.add(api.RegexNode{Kind: api.RxNot, L: l})
	}
	l := p.atom()
	for {
		least, most, ok := p.repeat()
		if !ok {
			return l
		}
		l = p.add(api.RegexNode{Kind: api.RxRepeat, L: l, Min: least, Max: most})
	}
}

// repeat reads a repetition, if there is one, and returns its bounds.
func (p *parser) repeat() (least, most int, ok bool) {
	switch {
	case p.take('*'):
		return 0, -1, true
	case p.take('+'):
		return 1, -1, true
	case p.take('?'):
		return 0, 1, true
	case p.take('{'):
		least, most = p.bounds()
		return least, most, true
	}
	return 0, 0, false
}

// bounds reads the bounds of a repetition after its opening brace.
func (p *parser) bounds() (least, most int) {
	least = p.number()
	p.expect(',')
	if p.take('}') {
		return least, -1
	}
	from := p.at
	most = p.number()
	if most < least {
		panic(failure{from, api.ErrToken})
	}
	p.expect('}')
	return least, most
}

func (p *parser) number() int {
	from := p.at
	first := p.next()
	if !digit(first) {
		p.refuse()
	}
	n := int(first - '0')
	// A leading zero is a whole number: what follows it is not part of it.
	for n > 0 && p.at < len(p.s) && digit(p.s[p.at]) {
		// Numbers that are too big need not be told apart, and must not overflow.
		n = min(10*n+int(p.next()-'0'), api.MaxRepeat+1)
	}
	if n > api.MaxRepeat {
		panic(failure{from, api.ErrBig})
	}
	return n
}

func digit(b byte) bool { return b >= '0' && b <= '9' }

func (p *parser) atom() int {
	switch {
	case p.take('.'):
		return p.add(api.RegexNode{Kind: api.RxClass, C: class.Range(0, 255)})
	case p.take('!'):
		return p.add(api.RegexNode{Kind: api.RxNone})
	case p.take('('):
		return p.group()
	case p.take('['):
		return p.add(api.RegexNode{Kind: api.RxClass, C: p.class()})
	}
	return p.add(api.RegexNode{Kind: api.RxClass, C: class.Of([]byte{p.char()})})
}

// group reads what follows an opening parenthesis.
func (p *parser) group() int {
	if p.take(')') {
		return p.add(api.RegexNode{Kind: api.RxEmpty})
	}
	l := p.alt()
	p.expect(')')
	return l
}

// class reads what follows an opening bracket.
func (p *parser) class() api.Class {
	not := p.take('^')
	var c api.Class
	for !p.take(']') {
		c = class.Union(c, p.pair())
	}
	if not {
		return class.Not(c)
	}
	return c
}

// pair reads a char of a class, or a pair of chars, and returns their class.
func (p *parser) pair() api.Class {
	first := p.char()
	if !p.take('-') {
		return class.Of([]byte{first})
	}
	from := p.at
	last := p.char()
	if last < first {
		panic(failure{from, api.ErrToken})
	}
	return class.Range(first, last)
}

func (p *parser) char() byte {
	b := p.next()
	if b == '\\' {
		p.expect('x')
		high := p.hex()
		return high<<4 | p.hex()
	}
	if !plain(b) {
		p.refuse()
	}
	return b
}

// hex reads a hex digit and returns its value.
func (p *parser) hex() byte {
	b := p.next()
	switch {
	case digit(b):
		return b - '0'
	case b >= 'a' && b <= 'f':
		return b - 'a' + 10
	case b >= 'A' && b <= 'F':
		return b - 'A' + 10
	}
	p.refuse()
	return 0
}
