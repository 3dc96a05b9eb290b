package lexer_test

import (
	"fmt"
	"regexp"
	"slices"
	"strings"
	"testing"
	"unicode/utf8"

	"tessera/api"
)

// slow is a second way to cut texts, to hold Lex against: it writes each rule
// as one of the library's regular expressions, and asks all of them anew at
// every place. A byte is the rune of the same number there.
type slow struct {
	rules []*regexp.Regexp
	begun []*regexp.Regexp // match a whole text of which more could come
}

func newSlow(t testing.TB, src string) slow {
	t.Helper()
	var s slow
	for line := range strings.SplitSeq(strings.TrimSuffix(src, "\n"), "\n") {
		_, match, _ := strings.Cut(line, "=")
		w := rewriter{src: match}
		out := w.either()
		rule, err := regexp.Compile(`\A(?:` + out.whole + `)`)
		if err != nil || w.at != len(match) {
			t.Fatalf("%q is not written anew: %v", line, err)
		}
		rule.Longest()
		s.rules = append(s.rules, rule)
		s.begun = append(s.begun, regexp.MustCompile(`\A(?:`+out.begun+`)\z`))
	}
	return s
}

// widen writes each byte as the rune of its number.
func widen(text string) string {
	var wide strings.Builder
	for i := range len(text) {
		wide.WriteRune(rune(text[i]))
	}
	return wide.String()
}

// settled is the tokens that are settled when so much of a text has come.
func (s slow) settled(text string) []api.Token {
	tokens := s.lex(text)
	for i, token := range tokens {
		wide := widen(text[token.From:])
		if slices.ContainsFunc(s.begun, func(begun *regexp.Regexp) bool { return begun.MatchString(wide) }) {
			return tokens[:i]
		}
	}
	return tokens
}

func (s slow) lex(text string) []api.Token {
	var tokens []api.Token
	left := widen(text)
	for at := 0; at < len(text); {
		rule, size := s.longest(left)
		for range size {
			_, width := utf8.DecodeRuneInString(left)
			left = left[width:]
		}
		tokens = append(tokens, api.Token{Rule: rule, From: at, To: at + size})
		at += size
	}
	return tokens
}

func (s slow) longest(wide string) (int, int) {
	rule, size := -1, 0
	for i, match := range s.rules {
		if n := utf8.RuneCountInString(match.FindString(wide)); n > size {
			rule, size = i, n
		}
	}
	return rule, max(size, 1)
}

// rewriter writes what a rule matches in the library's way.
type rewriter struct {
	src string
	at  int
}

func (w *rewriter) take() byte {
	w.at++
	return w.src[w.at-1]
}

func (w *rewriter) next(bytes string) bool {
	return w.at < len(w.src) && strings.IndexByte(bytes, w.src[w.at]) >= 0
}

// written is what a rule matches, and what of that may have come while more of
// it is to come.
type written struct{ whole, begun string }

func group(inner string) string { return "(?:" + inner + ")" }

func (w *rewriter) either() written {
	out := w.row()
	for w.next("|") {
		w.take()
		row := w.row()
		out = written{out.whole + "|" + row.whole, out.begun + "|" + row.begun}
	}
	return out
}

func (w *rewriter) row() written {
	out := w.marked()
	for w.at < len(w.src) && !w.next("|)") {
		atom := w.marked()
		out = written{out.whole + atom.whole, out.begun + "|" + out.whole + group(atom.begun)}
	}
	return out
}

func (w *rewriter) marked() written {
	out := w.atom()
	for w.next("*+?") {
		mark := string(w.take())
		if mark != "?" {
			out.begun = group(out.whole) + "*" + group(out.begun)
		}
		out.whole = group(out.whole) + mark
	}
	return out
}

func (w *rewriter) atom() written {
	if w.next(".") {
		w.take()
		return written{whole: `[^\n]`}
	}
	if w.next("(") {
		w.take()
		inner := w.either()
		w.take()
		return written{group(inner.whole), inner.begun}
	}
	if w.next("[") {
		out := string(w.take())
		for !w.next("]") {
			if w.next("^-") {
				out += string(w.take())
				continue
			}
			out += w.single()
		}
		return written{whole: out + string(w.take())}
	}
	return written{whole: w.single()}
}

func (w *rewriter) single() string {
	value := int(w.take())
	if value == '\\' {
		value = int(w.take())
		switch value {
		case 'n':
			value = 10
		case 't':
			value = 9
		case 's':
			value = 32
		case 'x':
			fmt.Sscanf(w.src[w.at:w.at+2], "%x", &value)
			w.at += 2
		}
	}
	return fmt.Sprintf(`\x{%x}`, value)
}

// writer makes up rules and texts, always the same ones.
type writer struct{ seed uint32 }

func (w *writer) below(n int) int {
	w.seed = w.seed*1664525 + 1013904223
	return int(w.seed>>16) % n
}

func (w *writer) pick(list ...string) string { return list[w.below(len(list))] }

func (w *writer) rules() string {
	var list []string
	for i := range 1 + w.below(4) {
		list = append(list, string(rune('a'+i))+"="+w.either(0))
	}
	return strings.Join(list, "\n") + w.pick("", "\n")
}

func (w *writer) either(depth int) string {
	out := w.row(depth)
	for w.below(3) == 0 {
		out += "|" + w.row(depth)
	}
	return out
}

func (w *writer) row(depth int) string {
	out := ""
	for out == "" || w.below(5) < 3 {
		out += w.atom(depth) + w.pick("", "", "", "*", "?", "+", "+?", "*+")
	}
	return out
}

func (w *writer) atom(depth int) string {
	if depth < 5 && w.below(3) == 0 {
		return "(" + w.either(depth+1) + ")"
	}
	return w.pick("a", "b", "a", "b", "c", ".", `\n`, `\xff`, "[ab]", "[^a]", "[b-c]", `[^\n-a\xff]`)
}

func (w *writer) text(length int) string {
	var out strings.Builder
	for range w.below(length) {
		out.WriteString(w.pick("a", "b", "a", "b", "c", "\n", "\xff", "d"))
	}
	return out.String()
}
