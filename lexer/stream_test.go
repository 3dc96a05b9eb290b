package lexer_test

import (
	"runtime"
	"slices"
	"strings"
	"sync"
	"testing"
	"unsafe"
	"weak"

	"tessera/api"
	"tessera/lexer"
	"tessera/rules"
)

// turn is what comes, and what is told then.
type turn struct {
	text string
	want []api.Token
}

func feed(t *testing.T, s *lexer.Stream, text string) []api.Token {
	t.Helper()
	tokens, fault := s.Feed(text)
	if fault != api.OK {
		t.Fatalf("Feed(%q): %d", text, fault)
	}
	return tokens
}

func shut(t *testing.T, s *lexer.Stream) []api.Token {
	t.Helper()
	tokens, fault := s.Shut()
	if fault != api.OK {
		t.Fatalf("Shut: %d", fault)
	}
	return tokens
}

// expectTurns holds what a stream tells, bit by bit and when it is shut,
// against what it should, with every room.
func expectTurns(t *testing.T, src string, turns []turn, last []api.Token) {
	t.Helper()
	for _, room := range rooms() {
		l := made(t, src, room)
		s, came := l.Open(), ""
		for _, next := range turns {
			came += next.text
			if got := feed(t, s, next.text); !slices.Equal(got, next.want) {
				t.Errorf("%q with room %d: when %q has come, by %q, told is %v, want %v", src, room, came, next.text, got, next.want)
			}
			expectHeld(t, l, room, next.want)
		}
		if got := shut(t, s); !slices.Equal(got, last) {
			t.Errorf("%q with room %d: when %q has come, Shut tells %v, want %v", src, room, came, got, last)
		}
		expectHeld(t, l, room, last)
	}
}

// tail is tokens of a row, those behind the first ones.
func tail(ahead int, numbers ...int) []api.Token { return row(numbers...)[ahead:] }

func TestP7Examples(t *testing.T) {
	expectTurns(t, "a=ab\nb=abcd", []turn{{"ab", nil}, {"c", nil}, {"e", row(0, 2, -1, 3, -1, 4)}}, nil)
	expectTurns(t, "a=ab\nb=abcd", []turn{{"abce", row(0, 2, -1, 3, -1, 4)}}, nil)
	expectTurns(t, "a=ab\nb=abcd", []turn{{"abc", nil}}, row(0, 2, -1, 3))
	expectTurns(t, "a=x+", []turn{{"xx", nil}, {"y", row(0, 2, -1, 3)}}, nil)
}

// Nothing can come that would make it another one: it is told at once, though
// it ends where the text ends that came so far.
func TestP7SettledAtOnce(t *testing.T) {
	expectTurns(t, "a=x", []turn{{"x", row(0, 1)}, {"xx", tail(1, 0, 1, 0, 2, 0, 3)}}, nil)
	expectTurns(t, "a=ab\nb=abcd", []turn{{"abcd", row(1, 4)}, {"ab", nil}, {"cd", tail(1, 1, 4, 1, 8)}}, nil)
	expectTurns(t, "s='[^']*'", []turn{{"'", nil}, {"it", nil}, {"'", row(0, 4)}, {"''", tail(1, 0, 4, 0, 6)}}, nil)
	expectTurns(t, "a=x?y", []turn{{"y", row(0, 1)}, {"xy", tail(1, 0, 1, 0, 3)}}, nil)
	expectTurns(t, "a=x|yy\nb=xz*w", []turn{{"yy", row(0, 2)}, {"x", nil}, {"w", tail(1, 0, 2, 1, 4)}}, nil)
	expectTurns(t, "a=.", []turn{{"\n", row(-1, 1)}, {"\xff\x00", tail(1, -1, 1, 0, 2, 0, 3)}}, nil)
}

// Something could come: it is not told, nor is any one behind it.
func TestP7NotSettledYet(t *testing.T) {
	expectTurns(t, "a=x+", []turn{{"x", nil}, {"x", nil}, {"xxx", nil}}, row(0, 5))
	expectTurns(t, "a=x\nb=x*y", []turn{{"x", nil}, {"xxx", nil}}, row(0, 1, 0, 2, 0, 3, 0, 4))
	expectTurns(t, "a=x\nb=x*y", []turn{{"xxxx", nil}, {"y", row(1, 5)}}, nil)
	// Each of the words alone would be settled behind its blank.
	expectTurns(t, "s='[^']*'\nq='\nw=[a-z]+\nb=\\s", []turn{{"'ab ", nil}, {"cd ", nil}},
		row(1, 1, 2, 3, 3, 4, 2, 6, 3, 7))
	expectTurns(t, "s='[^']*'\nq='\nw=[a-z]+\nb=\\s", []turn{{"ab 'ab ", row(2, 2, 3, 3)}, {"cd '", tail(2, 2, 2, 3, 3, 0, 11)}}, nil)
	// Both rules match x alike, and yet one of them goes on.
	expectTurns(t, "a=x\nb=x|xy", []turn{{"x", nil}, {"y", row(1, 2)}, {"x", nil}}, tail(1, 1, 2, 0, 3))
}

// A token is settled by a later one's bytes, and that one is not yet.
func TestP7SettledUpToTheFirstThatIsNot(t *testing.T) {
	expectTurns(t, "if=if\nid=[a-z]+\nsp=\\s+",
		[]turn{{"i", nil}, {"f", nil}, {" ", row(0, 2)}, {"iff", tail(1, 0, 2, 2, 3)}, {"!", tail(2, 0, 2, 2, 3, 1, 6, -1, 7)}}, nil)
	expectTurns(t, "a=xy*z", []turn{{"xyy", nil}, {"xy", tail(0, -1, 1, -1, 2, -1, 3)}, {"x", tail(3, -1, 1, -1, 2, -1, 3, -1, 4, -1, 5)}},
		tail(5, -1, 1, -1, 2, -1, 3, -1, 4, -1, 5, -1, 6))
	expectTurns(t, "a=ab", []turn{{"aa", row(-1, 1)}, {"a", tail(1, -1, 1, -1, 2)}, {"b", tail(2, -1, 1, -1, 2, 0, 4)}}, nil)
}

func TestP7FurtherAndBackByteByByte(t *testing.T) {
	expectTurns(t, "a=a\nb=bc\nd=abcdef",
		[]turn{{"a", nil}, {"b", nil}, {"c", nil}, {"d", nil}, {"e", nil}, {"x", row(0, 1, 1, 3, -1, 4, -1, 5, -1, 6)}}, nil)
	expectTurns(t, "a=a\nb=bc\nd=abcdef",
		[]turn{{"a", nil}, {"b", nil}, {"c", nil}, {"d", nil}, {"e", nil}, {"f", row(2, 6)}}, nil)
	// What one comes back to is the beginning of a token that is not settled.
	expectTurns(t, "a=a\nb=abc\nc=bb+",
		[]turn{{"a", nil}, {"b", nil}, {"b", row(0, 1)}, {"b", nil}, {"c", tail(1, 0, 1, 2, 4, -1, 5)}}, nil)
	// And it goes further and back from there once more.
	expectTurns(t, "a=ab\nb=ababac\nc=abad",
		[]turn{{"a", nil}, {"b", nil}, {"a", nil}, {"b", nil}, {"a", nil}, {"d", tail(0, 0, 2, 2, 6)}, {"a", nil}},
		tail(2, 0, 2, 2, 6, -1, 7))
	expectTurns(t, "n=[0-9]+(\\.[0-9]+)?\nd=\\.",
		[]turn{{"1", nil}, {".", nil}, {".", row(0, 1, 1, 2, 1, 3)}, {"2", nil}, {".", nil}, {"5", nil}, {".", tail(3, 0, 1, 1, 2, 1, 3, 0, 6, 1, 7)}, {"8", nil}, {".", nil}},
		tail(5, 0, 1, 1, 2, 1, 3, 0, 6, 1, 7, 0, 8, 1, 9))
}

func TestP7ByteOfNoRule(t *testing.T) {
	expectTurns(t, "a=x", []turn{{"y", row(-1, 1)}, {"\x00\xff", tail(1, -1, 1, -1, 2, -1, 3)}}, nil)
	expectTurns(t, "a=xyz", []turn{{"x", nil}, {"y", nil}, {"x", row(-1, 1, -1, 2)}, {"w", tail(2, -1, 1, -1, 2, -1, 3, -1, 4)}}, nil)
	expectTurns(t, "a=xyz", []turn{{"xy", nil}}, row(-1, 1, -1, 2))
	expectTurns(t, "a=(xx)+", []turn{{"x", nil}, {"x", nil}, {"x", nil}, {"y", row(0, 2, -1, 3, -1, 4)}}, nil)
}

func TestP7ShortTexts(t *testing.T) {
	expectTurns(t, "a=x", nil, nil)
	expectTurns(t, "a=x", []turn{{"", nil}, {"", nil}}, nil)
	expectTurns(t, "a=x+", []turn{{"", nil}, {"x", nil}, {"", nil}, {"x", nil}, {"", nil}}, row(0, 2))
	expectTurns(t, "a=x+", []turn{{"x", nil}}, row(0, 1))
	expectTurns(t, "a=xy", []turn{{"x", nil}, {"", nil}}, row(-1, 1))
	expectTurns(t, "a=xy", []turn{{"xy", row(0, 2)}, {"", nil}}, nil)
}

func TestP7AllBytes(t *testing.T) {
	all := allBytes()
	expectTurns(t, `a=[\x00-\xff]`, []turn{{all, made(t, `a=[\x00-\xff]`, 2).Lex(all)}}, nil)
	expectTurns(t, `a=[\x00-\xff]+`, []turn{{all, nil}}, row(0, 256))
	expectTurns(t, `a=.+`, []turn{{all, row(0, 10, -1, 11)}}, tail(2, 0, 10, -1, 11, 0, 256))
}

func expectShut(t *testing.T, s *lexer.Stream) {
	t.Helper()
	for _, text := range []string{"", "x", "xy", "\n"} {
		if got, fault := s.Feed(text); got != nil || fault != api.ErrShut {
			t.Errorf("shut, and fed %q, it tells %v, %d", text, got, fault)
		}
		if got, fault := s.Shut(); got != nil || fault != api.ErrShut {
			t.Errorf("shut again it tells %v, %d", got, fault)
		}
	}
}

func TestP7ErrShut(t *testing.T) {
	for _, came := range [][]string{nil, {""}, {"x"}, {"xx", "x"}, {"y"}, {"xyx"}} {
		l := made(t, "a=x+\nb=xxy", 4)
		s, other := l.Open(), l.Open()
		for _, text := range came {
			feed(t, s, text)
			feed(t, other, text)
		}
		shut(t, s)
		held := l.Held()
		expectShut(t, s)
		if l.Held() != held {
			t.Errorf("a stream that was shut made %d held states %d", held, l.Held())
		}
		// Another stream, and the lexer, know nothing of that.
		whole := strings.Join(came, "") + "xxyx"
		rest := append(feed(t, other, "xxyx"), shut(t, other)...)
		want := l.Lex(whole)
		if !slices.Equal(rest, want[len(want)-len(rest):]) || len(rest) == 0 {
			t.Errorf("beside a stream that was shut %q is told as %v, want the end of %v", whole, rest, want)
		}
	}
}

// expectFlow feeds the parts of a text, and holds what is told of each, one
// behind the other, against what is settled.
func expectFlow(t *testing.T, l *lexer.Lexer, text string, cuts []int, settled func(string) []api.Token, want []api.Token) {
	t.Helper()
	s, from := l.Open(), 0
	var told []api.Token
	for _, to := range append(slices.Clone(cuts), len(text)) {
		told = append(told, feed(t, s, text[from:to])...)
		from = to
		if now := settled(text[:to]); !slices.Equal(told, now) {
			t.Fatalf("%q parted at %v: when %q has come, told is %v, want %v", text, cuts, text[:to], told, now)
		}
	}
	told = append(told, shut(t, s)...)
	if !slices.Equal(told, want) {
		t.Fatalf("%q parted at %v is told as %v, want %v", text, cuts, told, want)
	}
}

// settledByTails is the tokens that none of the texts that could come behind
// makes others, if short ones will do for that.
func settledByTails(l *lexer.Lexer, text string) []api.Token {
	tokens := l.Lex(text)
	tails("abc", 4, func(behind string) {
		for i, token := range l.Lex(text + behind) {
			if i < len(tokens) && tokens[i] != token {
				tokens = tokens[:i]
			}
		}
	})
	return tokens
}

// The document's own words: what another text could make another token.
func TestP7SettledIsWhatNoTextChanges(t *testing.T) {
	for _, src := range []string{
		"a=a", "a=ab|b+", "a=a\nb=a*b", "a=(a|b)*abb", "a=a(b|bc)(ca|a)\nb=bc", "a=ab\nb=abcab", "a=(aaa)+\nb=bc?", "a=[^a]+\nb=a.a",
		"a=aaa\nb=aa\nc=bcb\nd=cc*a", "a=(a?b?c?)+a\nb=cb?",
	} {
		l, known := made(t, src, 3), map[string][]api.Token{}
		settled := func(text string) []api.Token { return known[text] }
		tails("abc", 5, func(text string) {
			known[text] = settledByTails(l, text)
			for bits := range 1 << (len(text) + 1) {
				expectFlow(t, l, text, cutsOf(bits, len(text)), settled, l.Lex(text))
			}
		})
	}
}

// Inside of a token, inside of a match that is found only by going further, and
// where that comes to nothing and one comes back.
func TestP7PartedAnywhere(t *testing.T) {
	for _, c := range []struct {
		src, text string
		want      []api.Token
	}{
		{"if=if\nid=[a-z]+\nsp=\\s+", "if iff!", row(0, 2, 2, 3, 1, 6, -1, 7)},
		{"a=ab\nb=abcd", "abcabcde", row(0, 2, -1, 3, 1, 7, -1, 8)},
		{"a=ab\nb=abababab", "abababab", row(1, 8)},
		{"a=ab\nb=abababab", "abababa", row(0, 2, 0, 4, 0, 6, -1, 7)},
		{"a=x\nb=x*y", "xxxxxxz", row(0, 1, 0, 2, 0, 3, 0, 4, 0, 5, 0, 6, -1, 7)},
		{"a=x\nb=x*y", "xxxxxyx", row(1, 6, 0, 7)},
		{"s=\"(\\\\.|[^\\\\\"])*\"\nx=.", `"\"a\\"b`, row(0, 7, 1, 8)},
	} {
		other := newSlow(t, c.src)
		for _, room := range []int{2, 1000} {
			l := made(t, c.src, room)
			for bits := range 1 << (len(c.text) + 1) {
				expectFlow(t, l, c.text, cutsOf(bits, len(c.text)), other.settled, c.want)
			}
		}
	}
}

func TestP7MadeUpRules(t *testing.T) {
	w := writer{seed: 37}
	for checked := 0; checked < 1500; {
		src := w.rules()
		if _, fault, _ := rules.Check(src); fault != api.OK {
			continue
		}
		checked++
		other := newSlow(t, src)
		for i, l := range ofAllRooms(t, src) {
			text := w.text(40)
			want := other.lex(text)
			expectFlow(t, l, text, w.cuts(len(text)), other.settled, want)
			expectHeld(t, l, rooms()[i], want)
		}
	}
}

func TestP7LongTexts(t *testing.T) {
	w := writer{seed: 41}
	for _, src := range []string{many, "a=ab\nb=abababab", "a=a\nb=a*c", "a=[^\\n]+\nb=\\n", "a=a(b*a)?"} {
		for _, room := range []int{2, 1000} {
			l := made(t, src, room)
			s, whole := l.Open(), ""
			var told []api.Token
			for range 300 {
				text := w.text(100)
				whole += text
				told = append(told, feed(t, s, text)...)
				expectHeld(t, l, room, told)
			}
			told = append(told, shut(t, s)...)
			if want := l.Lex(whole); !slices.Equal(told, want) {
				t.Errorf("%q with room %d: %d tokens are told of %d bytes, not %d", src, room, len(told), len(whole), len(want))
			}
		}
	}
}

// Streams of one lexer, fed by turns, with other questions in between.
func TestP7SeveralStreams(t *testing.T) {
	w := writer{seed: 43}
	for _, src := range []string{many, "a=ab\nb=abababab", "a=a\nb=a*c"} {
		for _, room := range rooms() {
			l, other := made(t, src, room), newSlow(t, src)
			var streams [5]*lexer.Stream
			var came [5]string
			var told [5][]api.Token
			for i := range streams {
				streams[i] = l.Open()
			}
			for range 60 {
				i, text := w.below(5), w.text(8)
				came[i] += text
				told[i] = append(told[i], feed(t, streams[i], text)...)
				expectParted(t, l, text, w.cuts(len(text)), 1+w.below(16), other.lex(text))
				expectCut(t, text, lexer.Join(l.Sum(text), l.Sum("ab")), other.lex(text+"ab"))
				if got, want := l.Lex(text), other.lex(text); !slices.Equal(got, want) {
					t.Fatalf("beside streams Lex(%q) = %v, want %v", text, got, want)
				}
				if want := other.settled(came[i]); !slices.Equal(told[i], want) {
					t.Fatalf("%q with room %d: of %q told is %v, want %v", src, room, came[i], told[i], want)
				}
				expectHeld(t, l, room, told[i])
			}
			for i, s := range streams {
				if got, want := append(told[i], shut(t, s)...), other.lex(came[i]); !slices.Equal(got, want) {
					t.Errorf("%q with room %d: %q is told as %v, want %v", src, room, came[i], got, want)
				}
			}
		}
	}
}

func TestP7ManyStreamsAtOnce(t *testing.T) {
	text := times(10, "abbaabcbabaaab")
	want := made(t, many, 1000).Lex(text)
	for _, room := range rooms() {
		l := made(t, many, room)
		var group sync.WaitGroup
		for asker := range 8 {
			group.Go(func() {
				w := writer{seed: uint32(asker)}
				for range 5 {
					s, from := l.Open(), 0
					var told []api.Token
					for _, to := range append(w.cuts(len(text)), len(text)) {
						next, _ := s.Feed(text[from:to])
						told, from = append(told, next...), to
					}
					last, _ := s.Shut()
					if told = append(told, last...); !slices.Equal(told, want) {
						t.Errorf("room %d: beside others a stream tells %v, want %v", room, told, want)
					}
					if got, fault := l.Parted(text, []int{10, 50}, 3); !slices.Equal(got, want) || fault != api.OK {
						t.Errorf("room %d: beside streams Parted = %v, %d, want %v", room, got, fault, want)
					}
					expectHeld(t, l, room, want)
				}
			})
		}
		group.Wait()
	}
}

// What is held is no more than room, and what is told the same, where there
// are many more states than room.
func TestP7RoomOfTwo(t *testing.T) {
	l, roomy := made(t, many, 2), made(t, many, 1000)
	s, other := l.Open(), roomy.Open()
	if l.Held() > 2 {
		t.Errorf("%d states are held when a stream was opened", l.Held())
	}
	w := writer{seed: 47}
	for range 2000 {
		text := w.text(6)
		if got, want := feed(t, s, text), feed(t, other, text); !slices.Equal(got, want) {
			t.Fatalf("fed %q with room 2 it tells %v, with much %v", text, got, want)
		}
		if held := l.Held(); held > 2 {
			t.Fatalf("%d states are held with room 2", held)
		}
	}
	if got, want := shut(t, s), shut(t, other); !slices.Equal(got, want) || l.Held() < 1 || l.Held() > 2 || roomy.Held() < 10 {
		t.Errorf("shut with room 2 it tells %v, with much %v; held are %d and %d", got, want, l.Held(), roomy.Held())
	}
}

func TestP2StreamListsAreTheCallers(t *testing.T) {
	l := made(t, "a=x\nb=y+\nc=xxxxz", 3)
	text := "xyyxxxxyzxxxzyyy"
	want := l.Lex(text)
	for _, step := range []int{1, 2, 5, 16} {
		s := l.Open()
		var lists, copies [][]api.Token
		scribble := func(list []api.Token) {
			copies = append(copies, slices.Clone(list))
			lists = append(lists, list)
			if len(lists)%2 == 0 {
				return
			}
			for i := range list {
				list[i] = api.Token{Rule: 9, From: 9, To: 9}
			}
			// Behind the list too there is nothing that anyone else has.
			list = append(list, api.Token{Rule: 8}, api.Token{Rule: 8})
		}
		for part := range slices.Chunk([]byte(text), step) {
			scribble(feed(t, s, string(part)))
		}
		scribble(shut(t, s))
		l.Lex(text)
		if got := slices.Concat(copies...); !slices.Equal(got, want) {
			t.Errorf("by %d bytes: told is %v, want %v", step, got, want)
		}
		for i, list := range lists {
			if i%2 == 1 && !slices.Equal(list, copies[i]) {
				t.Errorf("by %d bytes: the list %v became %v", step, copies[i], list)
			}
			if i%2 == 0 && slices.ContainsFunc(list, func(token api.Token) bool { return token.Rule != 9 }) {
				t.Errorf("by %d bytes: the caller's list became %v", step, list)
			}
		}
	}
}

func feedAway(t *testing.T, s *lexer.Stream) []weak.Pointer[byte] {
	var traces []weak.Pointer[byte]
	for range 3 {
		text := strings.Clone(times(31, "it's ") + times(30, "to come "))
		feed(t, s, text)
		traces = append(traces, weak.Make(unsafe.StringData(text)))
	}
	return traces
}

func TestP2StreamsKeepNoText(t *testing.T) {
	l := made(t, "s='[^']*'\nw=[a-z]+", 10)
	s := l.Open()
	traces := feedAway(t, s)
	runtime.GC()
	for i, trace := range traces {
		if trace.Value() != nil {
			t.Errorf("text %d that was handed in is kept", i)
		}
	}
	if len(shut(t, s)) == 0 {
		t.Error("nothing was left to be told")
	}
}

// P1: were all that is not settled gone through at each byte that comes, or
// anew for each token, this would not end in anyone's time.
func TestP1LongStreamsEnd(t *testing.T) {
	const size = 1 << 18
	for _, room := range []int{2, 1000} {
		l := made(t, "a=x\nb=x*y", room)
		for _, c := range []struct {
			last   string
			tokens int
		}{{"y", 1}, {"z", size + 1}, {"", size}} {
			bytes, whole := l.Open(), l.Open()
			var told, other []api.Token
			for range size {
				told = append(told, feed(t, bytes, "x")...)
			}
			if len(told) != 0 {
				t.Errorf("%v are told, and none is settled", told[:1])
			}
			told = append(told, feed(t, bytes, c.last)...)
			told = append(told, shut(t, bytes)...)
			other = append(other, feed(t, whole, times(size, "x")+c.last)...)
			other = append(other, shut(t, whole)...)
			if len(told) != c.tokens || !slices.Equal(told, other) {
				t.Errorf("behind %q: %d tokens byte by byte, %d of the whole, not %d", c.last, len(told), len(other), c.tokens)
			}
		}
	}
}

// Each byte settles one token, and leaves many that are not.
func TestP1StreamsThatLagBehindEnd(t *testing.T) {
	const size = 1 << 12
	src := "a=x\nb=" + times(50, "x") + "y"
	for _, room := range []int{2, 1000} {
		s := made(t, src, room).Open()
		count := 0
		for i := range size {
			tokens := feed(t, s, "x")
			if i >= 50 && !slices.Equal(tokens, []api.Token{{Rule: 0, From: i - 50, To: i - 49}}) {
				t.Fatalf("by x %d told is %v", i, tokens)
			}
			count += len(tokens)
		}
		if last := feed(t, s, "y"); count != size-50 || !slices.Equal(last, []api.Token{{Rule: 1, From: size - 50, To: size + 1}}) {
			t.Errorf("%d tokens are told, and then %v", count, last)
		}
	}
}

func FuzzStream(f *testing.F) {
	f.Add("if=if\nid=[a-z]+\nsp=\\s+", "if iff!", []byte{1, 4, 4})
	f.Add("a=ab\nb=abababab", "ababababa", []byte{0, 9, 3})
	f.Add("a=x\nb=x*y", "xxxxz", []byte{1, 2, 3})
	f.Fuzz(func(t *testing.T, src, text string, places []byte) {
		if _, fault, _ := rules.Check(src); fault != api.OK || len(text) > 60 || len(places) > 60 {
			return
		}
		var cuts []int
		for _, place := range places {
			cuts = append(cuts, min(int(place), len(text)))
		}
		slices.Sort(cuts)
		other := newSlow(t, src)
		expectFlow(t, made(t, src, 3), text, cuts, other.settled, other.lex(text))
	})
}
