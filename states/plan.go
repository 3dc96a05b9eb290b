package states

import "tessera/syntax"

// Plan is what rules come to once their shape is gone: which atoms match a
// byte, and what may come behind an atom.
type Plan struct {
	begin []Set    // by rule: the atoms that it may begin with
	next  []Set    // by atom: what may come behind it
	match [256]Set // by byte: the atoms that match it
	ends  Set      // of all rules
}

// Make makes the plan of rules that Check has found nothing wrong with: a set
// has no room for the atoms of others.
func Make(list []syntax.Rule) *Plan {
	p := &Plan{}
	for i, rule := range list {
		whole := p.lay(rule.Match)
		p.begin = append(p.begin, whole.first)
		end := Set{}.with(firstEnd + i)
		p.link(whole.last, end)
		p.ends = p.ends.union(end)
	}
	return p
}

// piece is a part of a rule, as its neighbours see it.
type piece struct {
	first, last Set // the atoms that it may begin and end with
	empty       bool
}

func (p *Plan) lay(n syntax.Node) piece {
	switch n.Kind {
	case syntax.Row:
		return p.row(n.Parts)
	case syntax.Either:
		return p.either(n.Parts)
	case syntax.Repeat:
		return p.repeat(n)
	default:
		return p.atom(n.Bytes)
	}
}

func (p *Plan) row(parts []syntax.Node) piece {
	whole := piece{empty: true}
	for _, part := range parts {
		whole = p.behind(whole, p.lay(part))
	}
	return whole
}

func (p *Plan) behind(a, b piece) piece {
	p.link(a.last, b.first)
	both := piece{first: a.first, last: b.last, empty: a.empty && b.empty}
	if a.empty {
		both.first = a.first.union(b.first)
	}
	if b.empty {
		both.last = a.last.union(b.last)
	}
	return both
}

func (p *Plan) either(parts []syntax.Node) piece {
	var whole piece
	for _, part := range parts {
		one := p.lay(part)
		whole.first = whole.first.union(one.first)
		whole.last = whole.last.union(one.last)
		whole.empty = whole.empty || one.empty
	}
	return whole
}

func (p *Plan) repeat(n syntax.Node) piece {
	whole := p.row(n.Parts)
	if n.Again {
		p.link(whole.last, whole.first)
	}
	whole.empty = whole.empty || n.None
	return whole
}

func (p *Plan) atom(bytes syntax.Set) piece {
	number := len(p.next)
	p.next = append(p.next, Set{})
	for b := range p.match {
		if bytes.Has(byte(b)) {
			p.match[b] = p.match[b].with(number)
		}
	}
	one := Set{}.with(number)
	return piece{first: one, last: one}
}

// link lets what is in behind come behind each of the atoms.
func (p *Plan) link(atoms, behind Set) {
	for atom := range atoms.atoms() {
		p.next[atom] = p.next[atom].union(behind)
	}
}

// first is the state at the beginning of a token.
func (p *Plan) first() Set {
	var state Set
	for _, begin := range p.begin {
		state = state.union(begin)
	}
	return state
}

// step is the state behind a byte, from the one ahead of it.
func (p *Plan) step(from Set, b byte) Set {
	var state Set
	for atom := range from.atoms() {
		if p.match[b].Meets(Set{}.with(atom)) {
			state = state.union(p.next[atom])
		}
	}
	return state
}

// Back is the atoms by which the byte b leads on to the end of a rule, right
// behind b or later. Of the text behind b it asks the same, in later.
func (p *Plan) Back(b byte, later Set) Set {
	return p.Into(b, later.union(p.ends))
}

// Into is the atoms by which the byte b leads to one of the goal's numbers.
func (p *Plan) Into(b byte, goal Set) Set {
	var leading Set
	for atom := range p.match[b].atoms() {
		if p.next[atom].Meets(goal) {
			leading = leading.with(atom)
		}
	}
	return leading
}
