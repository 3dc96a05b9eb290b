package syntax

import (
	"strings"

	"tessera/api"
)

const (
	lineFeed  = '\n'
	hexDigits = "0123456789abcdef"

	// Bytes that do not stand for themselves, outside and inside brackets.
	specialInRow      = `\.[]()*+?|`
	specialInBrackets = `\]-^`
)

// Read reads a text of rules. If it is none, it answers the place of the fault
// and false.
func Read(src string) ([]Rule, int, bool) {
	if len(src) > api.MaxText {
		return nil, 0, false
	}
	r := reader{src: src}
	rules, ok := r.text()
	if !ok {
		return nil, r.at, false
	}
	return rules, 0, true
}

// reader stands at a place of the text. A method that meets a fault answers
// false and leaves the reader at the fault's place.
type reader struct {
	src  string
	at   int
	open int
}

// peek is the byte ahead. Behind the last one it is 0: that byte may stand
// nowhere in a text of rules, so a text that ends too early fails by itself,
// at its length.
func (r *reader) peek() byte {
	if r.at >= len(r.src) {
		return 0
	}
	return r.src[r.at]
}

func (r *reader) take(b byte) bool {
	if r.peek() != b {
		return false
	}
	r.at++
	return true
}

func (r *reader) ended() bool { return r.at == len(r.src) }

func (r *reader) text() ([]Rule, bool) {
	var rules []Rule
	for {
		rule, ok := r.rule()
		if !ok {
			return nil, false
		}
		rules = append(rules, rule)
		if r.ended() {
			return rules, true
		}
		if !r.take(lineFeed) {
			return nil, false
		}
		if r.ended() {
			return rules, true
		}
	}
}

func (r *reader) rule() (Rule, bool) {
	from := r.at
	name, ok := r.name()
	if !ok || !r.take('=') {
		return Rule{}, false
	}
	match, ok := r.either()
	return Rule{Name: name, At: from, Match: match}, ok
}

// name stops ahead of a ninth letter, which then fails for not being a `=`.
func (r *reader) name() (string, bool) {
	from := r.at
	for r.at-from < api.MaxName && isSmallLetter(r.peek()) {
		r.at++
	}
	return r.src[from:r.at], r.at > from
}

func isSmallLetter(b byte) bool { return b >= 'a' && b <= 'z' }

func (r *reader) either() (Node, bool) {
	var rows []Node
	for {
		row, ok := r.row()
		if !ok {
			return Node{}, false
		}
		rows = append(rows, row)
		if !r.take('|') {
			return Node{Kind: Either, Parts: rows}, true
		}
	}
}

func (r *reader) row() (Node, bool) {
	var atoms []Node
	for len(atoms) == 0 || beginsAtom(r.peek()) {
		atom, ok := r.atom()
		if !ok {
			return Node{}, false
		}
		atoms = append(atoms, r.marks(atom))
	}
	return Node{Kind: Row, Parts: atoms}, true
}

func beginsAtom(b byte) bool {
	return strings.IndexByte(`\.[(`, b) >= 0 || isPlain(b, specialInRow)
}

func isPlain(b byte, special string) bool {
	return b >= 33 && b <= 126 && strings.IndexByte(special, b) < 0
}

func (r *reader) marks(n Node) Node {
	for {
		none, again := false, false
		switch r.peek() {
		case '+':
			again = true
		case '*':
			again = true
			fallthrough
		case '?':
			none = true
		default:
			return n
		}
		r.at++
		n = Node{Kind: Repeat, Parts: []Node{n}, None: none, Again: again}
	}
}

func (r *reader) atom() (Node, bool) {
	var set Set
	var ok bool
	switch r.peek() {
	case '(':
		return r.group()
	case '[':
		set, ok = r.brackets()
	case '.':
		r.at++
		set, ok = span(lineFeed, lineFeed).rest(), true
	default:
		var b byte
		b, ok = r.single(specialInRow)
		set = span(b, b)
	}
	return Node{Kind: One, Bytes: set}, ok
}

func (r *reader) group() (Node, bool) {
	if r.open == api.MaxNest {
		return Node{}, false
	}
	r.open++
	r.at++
	inner, ok := r.either()
	if !ok || !r.take(')') {
		return Node{}, false
	}
	r.open--
	return inner, true
}

func (r *reader) brackets() (Set, bool) {
	r.at++
	others := r.take('^')
	var set Set
	for {
		item, ok := r.item()
		if !ok {
			return Set{}, false
		}
		set = set.with(item)
		if r.peek() == ']' {
			break
		}
	}
	if others {
		set = set.rest()
	}
	if set == (Set{}) {
		return Set{}, false
	}
	r.at++
	return set, true
}

func (r *reader) item() (Set, bool) {
	low, ok := r.single(specialInBrackets)
	if !ok {
		return Set{}, false
	}
	high := low
	switch r.peek() {
	case '-':
		r.at++
		from := r.at
		if high, ok = r.single(specialInBrackets); !ok {
			return Set{}, false
		}
		if high < low {
			r.at = from
			return Set{}, false
		}
		fallthrough
	default:
		return span(low, high), true
	}
}

// single reads an escape, or a byte that stands for itself.
func (r *reader) single(special string) (byte, bool) {
	b := r.peek()
	switch {
	case b == '\\':
		value, ok := r.escape()
		if !ok {
			return 0, false
		}
		b = value
		fallthrough
	case isPlain(b, special):
		r.at++
		return b, true
	default:
		return 0, false
	}
}

// escape stays on its last byte, which single leaves behind like any other.
func (r *reader) escape() (byte, bool) {
	r.at++
	b := r.peek()
	switch b {
	case 'n':
		return '\n', true
	case 't':
		return '\t', true
	case 's':
		return ' ', true
	case 'x':
		return r.hex()
	default:
		return b, strings.IndexByte(`\.[]()*+?|-^`, b) >= 0
	}
}

func (r *reader) hex() (byte, bool) {
	value := 0
	for range 2 {
		r.at++
		digit := strings.IndexByte(hexDigits, r.peek())
		if digit < 0 {
			return 0, false
		}
		value = value*16 + digit
	}
	return byte(value), true
}
