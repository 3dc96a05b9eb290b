package lexer

import (
	"strings"

	"tessera/api"
)

// Part is what there is to know of a part of a text. What stands ahead of it
// and behind it may make any of its bytes begin or end a token, so that is no
// less than the part itself.
type Part struct {
	lexer *Lexer
	whole *piece // nil, if the part is empty
}

// piece is a text that is not empty, or two pieces one behind the other. It
// never changes, so parts may have pieces in common.
type piece struct {
	text        string
	left, right *piece
}

// Sum is what there is to know of a part (P6).
func (l *Lexer) Sum(text string) Part {
	if text == "" {
		return Part{lexer: l}
	}
	return Part{lexer: l, whole: &piece{text: strings.Clone(text)}}
}

// Join joins a part and the one behind it (P6). Of parts of two lexers, the
// first one that is not empty tells by which of them the whole is cut.
func Join(a, b Part) Part {
	if a.whole == nil {
		return b
	}
	if b.whole == nil {
		return a
	}
	return Part{lexer: a.lexer, whole: &piece{left: a.whole, right: b.whole}}
}

// Cut tells the tokens of the whole (P6).
func (p Part) Cut() []api.Token {
	if p.whole == nil {
		return nil
	}
	return p.lexer.Lex(p.whole.join())
}

// join is the text of all pieces. It keeps a list of those that are to come,
// as they may be joined far deeper than calls should nest.
func (p *piece) join() string {
	var text strings.Builder
	for rest := []*piece{p}; len(rest) > 0; {
		next := rest[len(rest)-1]
		rest = rest[:len(rest)-1]
		if next.left != nil {
			rest = append(rest, next.right, next.left)
		}
		text.WriteString(next.text)
	}
	return text.String()
}
