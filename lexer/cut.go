package lexer

import (
	"tessera/api"
	"tessera/states"
)

// leading is, for each place of a text, the atoms by which the text from there
// on leads to the end of a rule. It is worked out from the text's end, once for
// all tokens: to look for a longer match from every token anew would take as
// many steps as there are pairs of places, in the worst case.
func (l *Lexer) leading(text string) []states.Set {
	list := make([]states.Set, len(text)+1)
	for at := len(text) - 1; at >= 0; at-- {
		list[at] = l.plan.Back(text[at], list[at+1])
	}
	return list
}

// token is the one that begins at from. It goes on as long as there is an end
// of a rule further on, so where it stops a rule has ended (if it went on at
// all), and there is none to come back for.
func (l *Lexer) token(text string, leading []states.Set, from int) api.Token {
	state, at := l.table.First(), from
	for state.Meets(leading[at]) {
		state = l.table.Step(state, text[at])
		at++
	}
	if at == from {
		return api.Token{Rule: -1, From: from, To: from + 1}
	}
	return api.Token{Rule: state.Rule(), From: from, To: at}
}
