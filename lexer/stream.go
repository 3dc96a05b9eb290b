package lexer

import (
	"tessera/api"
	"tessera/states"
)

// Stream is a text that comes bit by bit. What is known of the first token
// that was not told stands for its bytes: kept are those behind it alone, as
// they become tokens of their own if it does not grow over them.
type Stream struct {
	lexer *Lexer
	shut  bool
	open  api.Token  // that token, as it is if nothing comes behind; empty, if nothing of it came
	state states.Set // of that token, behind all that came
	rest  []byte     // what came behind that token
}

// Open opens a stream (P7).
func (l *Lexer) Open() *Stream { return &Stream{lexer: l} }

// Feed lets a text come (P7).
func (s *Stream) Feed(text string) ([]api.Token, api.Errno) {
	if s.shut {
		return nil, api.ErrShut
	}
	for i := range len(text) {
		s.step(text[i])
		if !s.state.GoesOn() {
			return s.settle(text[i+1:]), api.OK
		}
	}
	return nil, api.OK
}

// Shut shuts a stream (P7).
func (s *Stream) Shut() ([]api.Token, api.Errno) {
	if s.shut {
		return nil, api.ErrShut
	}
	var tokens []api.Token
	if s.begun() {
		tokens = s.tell(s.lexer.Lex(string(s.rest)))
	}
	*s = Stream{shut: true}
	return tokens, api.OK
}

func (s *Stream) begun() bool { return s.open.To > s.open.From }

// step follows the open token by a byte.
func (s *Stream) step(b byte) {
	begins := !s.begun()
	if begins {
		s.state = s.lexer.table.First()
	}
	s.state = s.lexer.table.Step(s.state, b)
	rule := s.state.Rule()
	if rule < 0 && !begins {
		s.rest = append(s.rest, b)
		return
	}
	s.open.Rule, s.open.To = rule, s.open.To+len(s.rest)+1
	s.rest = nil
}

// settle tells the open token, which nothing can make another one any more,
// and those behind it that are settled as well, once the text has come too.
// Which ones those are it finds out from the end: to follow each of them until
// it goes on no more would take as many steps as there are pairs of places, in
// the worst case.
func (s *Stream) settle(text string) []api.Token {
	r := s.lexer.read(string(s.rest) + text)
	r.lead(0, len(r.text))
	c := r.cutSettled(r.unsettled())
	tokens := s.tell(c.tokens)
	begin := s.open.To + c.from
	s.open, s.rest = api.Token{From: begin, To: begin}, nil
	for i := c.from; i < len(r.text); i++ {
		s.step(r.text[i])
	}
	return tokens
}

// tell is the open token and those behind it, whose places are counted from
// its end.
func (s *Stream) tell(behind []api.Token) []api.Token {
	tokens := append(make([]api.Token, 0, 1+len(behind)), s.open)
	for _, token := range behind {
		token.From += s.open.To
		token.To += s.open.To
		tokens = append(tokens, token)
	}
	return tokens
}

// unsettled is, for each place, whether a token that begins there could go on
// behind the text. One that begins at its end could always.
func (r *reading) unsettled() []bool {
	unsettled := make([]bool, len(r.text)+1)
	unsettled[len(r.text)] = true
	first, later := r.lexer.table.First(), states.Atoms()
	for at := len(r.text) - 1; at >= 0 && later.GoesOn(); at-- {
		later = r.lexer.plan.Into(r.text[at], later)
		unsettled[at] = first.Meets(later)
	}
	return unsettled
}

// cutSettled is the run up to the first token that is not settled.
func (r *reading) cutSettled(unsettled []bool) run {
	c := run{reading: r}
	for c.at != c.from || !unsettled[c.from] {
		c.step()
	}
	return c
}
