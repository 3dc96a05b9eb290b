package lexer

import (
	"strings"
	"testing"

	"tessera/api"
)

// Of the bytes that came a stream keeps those alone that may become tokens of
// their own.
func TestStreamsKeepWhatMayBeTold(t *testing.T) {
	for _, c := range []struct {
		src, text string
		kept      string
	}{
		{"a=x+", strings.Repeat("x", 1000), ""},
		{"a=x", strings.Repeat("x", 1000), ""},
		{"a=x", strings.Repeat("y", 1000), ""},
		{"a=[a-z]+\nb=\\s", strings.Repeat("some words ", 100), ""},
		{"a=x+(yz)?", "xxxxxy", "y"},
		{"a=ab\nb=ababab", "abab", "ab"},
		{"a=ab\nb=ababab", "ababab", ""},
		{"a=xyz", "xy", "y"},
		{"a=xy*z+", "x" + strings.Repeat("y", 1000) + "z", ""},
		{"s='[^']*'\nw=[a-z]+", "ab'cd", "cd"},
	} {
		whole, bytes := newLexer(t, c.src).Open(), newLexer(t, c.src).Open()
		whole.Feed(c.text)
		for i := range len(c.text) {
			bytes.Feed(c.text[i : i+1])
		}
		for _, s := range []*Stream{whole, bytes} {
			if string(s.rest) != c.kept || cap(s.rest) > 2*len(c.kept)+8 {
				t.Errorf("%q: of %q kept is %q, with place for %d, want %q", c.src, c.text, s.rest, cap(s.rest), c.kept)
			}
			s.Shut()
			if s.rest != nil || s.lexer != nil || s.open != (api.Token{}) {
				t.Errorf("%q: behind Shut kept is %v", c.src, s)
			}
		}
	}
}
