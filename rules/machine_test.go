package rules_test

import "tessera/api"

// machine is a second reading of the document to hold Check against: it takes
// a text of rules byte by byte, with a stack where Check recurses.
type machine struct {
	state  state
	src    string
	at     int // the place of the byte at hand
	began  int // where the SMALL at hand begins
	low    int // the first byte of the item at hand
	value  int // the byte an escape stands for
	behind state
	not    bool
	named  [256]bool
	levels []level
	rules  []ruleSeen
}

// level is what is known of an any that is open.
type level struct {
	someRow bool // an earlier row matches the empty text
	row     bool // all earlier atoms of this row match it
	atom    bool // the atom at hand matches it
}

type ruleSeen struct {
	name  string
	at    int
	nodes int
	empty bool
}

type state int

const (
	wantName state = iota // a letter
	inName                // a letter, or =
	wantAtom              // the beginning of a row
	haveAtom              // anything behind an atom
	wantItem              // the first item, behind ^ if there is one
	wantNot               // the same, or ^
	haveLow               // behind a SMALL that may be the a of a-b
	wantHigh              // the b of a-b
	haveItem              // behind a-b
	inEscape              // behind a backslash
	firstHex
	secondHex
)

// fault is the place of the first byte that cannot stand there, or -1.
func (m *machine) fault() int {
	for m.at = 0; m.at < len(m.src); m.at++ {
		if place := m.step(m.src[m.at]); place >= 0 {
			return place
		}
	}
	lineEnd := m.state == haveAtom && len(m.levels) == 1
	if lineEnd {
		m.endRule()
	}
	if !lineEnd && (m.state != wantName || len(m.src) == 0) {
		return len(m.src)
	}
	return -1
}

func (m *machine) step(b byte) int {
	switch m.state {
	case wantName, inName:
		return m.stepName(b)
	case wantAtom, haveAtom:
		return m.stepAtom(b)
	case inEscape, firstHex, secondHex:
		return m.stepEscape(b)
	default:
		return m.stepBrackets(b)
	}
}

func (m *machine) stepName(b byte) int {
	if m.state == wantName {
		m.rules = append(m.rules, ruleSeen{at: m.at})
	}
	rule := &m.rules[len(m.rules)-1]
	switch {
	case 'a' <= b && b <= 'z' && len(rule.name) < 8:
		rule.name += string(b)
		m.state = inName
	case b == '=' && m.state == inName:
		m.levels = []level{{row: true}}
		m.state = wantAtom
	default:
		return m.at
	}
	return -1
}

func (m *machine) stepAtom(b byte) int {
	top := &m.levels[len(m.levels)-1]
	rule := &m.rules[len(m.rules)-1]
	have := m.state == haveAtom
	switch {
	case have && (b == '*' || b == '?' || b == '+'):
		rule.nodes++
		top.atom = top.atom || b != '+'
	case have && b == '|':
		rule.nodes++
		top.someRow = top.someRow || top.row && top.atom
		top.row = true
		m.state = wantAtom
	case have && b == ')' && len(m.levels) > 1:
		empty := top.someRow || top.row && top.atom
		m.levels = m.levels[:len(m.levels)-1]
		m.levels[len(m.levels)-1].atom = empty
	case have && b == '\n' && len(m.levels) == 1:
		m.endRule()
		m.state = wantName
	case b == '(' && len(m.levels) <= 20:
		m.pushAtom(true)
		m.levels = append(m.levels, level{row: true})
		m.state = wantAtom
	case b == '(' || b == ')' || b == ']' || b == '*' || b == '+' || b == '?' || b == '|' || b < 33 || b > 126:
		return m.at
	case b == '[':
		m.pushAtom(false)
		m.named, m.not = [256]bool{}, false
		m.state = wantNot
	case b == '\\':
		m.pushAtom(false)
		m.behind, m.state = haveAtom, inEscape
	default:
		m.pushAtom(false)
		m.state = haveAtom
	}
	return -1
}

// pushAtom lays the atom at hand to its row, and begins another one.
func (m *machine) pushAtom(round bool) {
	top := &m.levels[len(m.levels)-1]
	if m.state == haveAtom {
		top.row = top.row && top.atom
	}
	top.atom = false
	if !round {
		m.rules[len(m.rules)-1].nodes++
	}
}

func (m *machine) endRule() {
	top := m.levels[0]
	m.rules[len(m.rules)-1].empty = top.someRow || top.row && top.atom
}

func (m *machine) stepEscape(b byte) int {
	digit := hexValue(b)
	switch {
	case m.state == inEscape && b == 'x':
		m.state = firstHex
		return -1
	case m.state == inEscape:
		value, ok := map[byte]int{'n': 10, 't': 9, 's': 32, '\\': '\\', '.': '.', '[': '[', ']': ']', '(': '(', ')': ')', '*': '*', '+': '+', '?': '?', '|': '|', '-': '-', '^': '^'}[b]
		if !ok {
			return m.at
		}
		m.value = value
	case digit < 0:
		return m.at
	case m.state == firstHex:
		m.value = digit
		m.state = secondHex
		return -1
	default:
		m.value = m.value*16 + digit
	}
	m.state = m.behind
	return m.endSmall()
}

func hexValue(b byte) int {
	switch {
	case '0' <= b && b <= '9':
		return int(b - '0')
	case 'a' <= b && b <= 'f':
		return int(b-'a') + 10
	}
	return -1
}

// endSmall lays the byte just read into the brackets, if it stands in some.
func (m *machine) endSmall() int {
	switch m.state {
	case haveLow:
		m.low = m.value
	case haveItem:
		if m.value < m.low {
			return m.began
		}
	default:
		return -1
	}
	for b := m.low; b <= m.value; b++ {
		m.named[b] = true
	}
	return -1
}

func (m *machine) stepBrackets(b byte) int {
	first := m.state == wantItem || m.state == wantNot
	switch {
	case b == '^' && m.state == wantNot:
		m.not = true
		m.state = wantItem
		return -1
	case b == '-' && m.state == haveLow:
		m.state = wantHigh
		return -1
	case b == ']' && !first && m.state != wantHigh:
		if m.not && m.named == allBytes() {
			return m.at
		}
		m.state = haveAtom
		return -1
	case b == '^' || b == '-' || b == ']' || b < 33 || b > 126:
		return m.at
	}
	m.began = m.at
	m.behind = haveLow
	if m.state == wantHigh {
		m.behind = haveItem
	}
	if b == '\\' {
		m.state = inEscape
		return -1
	}
	m.value = int(b)
	m.state = m.behind
	return m.endSmall()
}

func allBytes() [256]bool {
	var all [256]bool
	for i := range all {
		all[i] = true
	}
	return all
}

// slowCheck is what Check should answer.
func slowCheck(src string) (int, api.Errno, int) {
	if len(src) > 400 {
		return 0, api.ErrText, 0
	}
	m := machine{src: src}
	if place := m.fault(); place >= 0 {
		return 0, api.ErrText, place
	}
	nodes := 0
	names := map[string]bool{}
	for i, rule := range m.rules {
		nodes += rule.nodes
		switch {
		case i >= 8 || nodes > 60:
			return 0, api.ErrMany, rule.at
		case names[rule.name]:
			return 0, api.ErrName, rule.at
		case rule.empty:
			return 0, api.ErrEmpty, rule.at
		}
		names[rule.name] = true
	}
	return len(m.rules), api.OK, 0
}
