package lexer

import (
	"tessera/api"
	"tessera/states"
)

// reading is a text that is being cut, and what is known of it from its end:
// leading is, for each place, the atoms by which the text from there on leads
// to the end of a rule. It is worked out once for all tokens: to look for a
// longer match from every token anew would take as many steps as there are
// pairs of places, in the worst case.
type reading struct {
	lexer   *Lexer
	text    string
	leading []states.Set
}

func (l *Lexer) read(text string) *reading {
	return &reading{lexer: l, text: text, leading: make([]states.Set, len(text)+1)}
}

// lead works leading out for the places from a place up to another, as if the
// text ended there.
func (r *reading) lead(from, to int) {
	var later states.Set
	for at := to - 1; at >= from; at-- {
		later = r.lexer.plan.Back(r.text[at], later)
		r.leading[at] = later
	}
}

// mend sets right what lead left between the two places, once leading is right
// at the second. Where it makes no difference, it makes none further ahead.
func (r *reading) mend(from, to int) {
	for at := to - 1; at >= from; at-- {
		right := r.lexer.plan.Back(r.text[at], r.leading[at+1])
		if right == r.leading[at] {
			return
		}
		r.leading[at] = right
	}
}

// run is how far the cutting of a text has come from some place on.
type run struct {
	*reading
	tokens []api.Token
	from   int        // where the next token begins
	at     int        // how far it was followed
	state  states.Set // there, if that is not where it begins
}

// cut is the run from a place up to another, if a token begins at the first.
func (r *reading) cut(from, to int) run {
	c := run{reading: r, from: from, at: from}
	for c.at < to {
		c.step()
	}
	return c
}

// step follows the next token by a byte. It goes on as long as there is an end
// of a rule further on, so where it stops a rule has ended (or there was none
// to go on for, ever), and there is none to come back for.
func (c *run) step() {
	if c.at == c.from {
		c.state = c.lexer.table.First()
	}
	if c.state.Meets(c.leading[c.at]) {
		c.state = c.lexer.table.Step(c.state, c.text[c.at])
	} else {
		c.state = states.Set{}
	}
	c.at++
	if !c.state.Meets(c.leading[c.at]) {
		c.tokens = append(c.tokens, api.Token{Rule: c.state.Rule(), From: c.from, To: c.at})
		c.from = c.at
	}
}
