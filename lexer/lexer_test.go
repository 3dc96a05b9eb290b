package lexer_test

import (
	"runtime"
	"slices"
	"strings"
	"sync"
	"testing"
	"unsafe"
	"weak"

	"tessera/api"
	"tessera/lexer"
	"tessera/rules"
)

func made(t testing.TB, src string, room int) *lexer.Lexer {
	t.Helper()
	l, fault, at := lexer.New(src, room)
	if l == nil || fault != api.OK || at != 0 {
		t.Fatalf("New(%q, %d) = %v, %d, %d", src, room, l, fault, at)
	}
	return l
}

func times(n int, s string) string { return strings.Repeat(s, n) }

func rooms() []int { return []int{2, 3, 4, 7, 1000} }

// row makes tokens that stand one behind the other of their rules and ends.
func row(numbers ...int) []api.Token {
	var tokens []api.Token
	from := 0
	for pair := range slices.Chunk(numbers, 2) {
		tokens = append(tokens, api.Token{Rule: pair[0], From: from, To: pair[1]})
		from = pair[1]
	}
	return tokens
}

// expect holds what Lex tells against want, with every room, twice.
func expect(t *testing.T, src, text string, want []api.Token) {
	t.Helper()
	for _, room := range rooms() {
		l := made(t, src, room)
		for range 2 {
			if got := l.Lex(text); !slices.Equal(got, want) {
				t.Errorf("%q with room %d: Lex(%q) = %v, want %v", src, room, text, got, want)
			}
			expectHeld(t, l, room, want)
		}
	}
}

func expectHeld(t *testing.T, l *lexer.Lexer, room int, tokens []api.Token) {
	t.Helper()
	ofRule := slices.ContainsFunc(tokens, func(token api.Token) bool { return token.Rule >= 0 })
	if held := l.Held(); held < 0 || held > room || ofRule && held == 0 {
		t.Errorf("%d states are held with room %d", held, room)
	}
}

func TestP4ErrorsOfCheck(t *testing.T) {
	for _, src := range []string{
		"", "a", "a=", "a=x|", "a=[b-a]", `a=[^\x00-\xff]`, "a=x\na=y", "a=x*", "a=x\nb=y?", "a=" + times(61, "x"),
		times(401, "x"), times(9, "a=x\n"), "a=x\nb=x\nc=x\nd=x\ne=x\nf=x\ng=x\nh=x\ni=x", "a=x\n\n", "a=" + times(21, "("),
	} {
		_, want, place := rules.Check(src)
		if want == api.OK {
			t.Fatalf("nothing is wrong with %q", src)
		}
		for _, room := range []int{-1, 0, 1, 2, 1000, 1001} {
			if l, fault, at := lexer.New(src, room); l != nil || fault != want || at != place {
				t.Errorf("New(%q, %d) = %v, %d, %d, want nil, %d, %d", src, room, l, fault, at, want, place)
			}
		}
	}
}

func TestP4RoomOutOfBounds(t *testing.T) {
	for _, room := range []int{1, 0, -1, -2, 1001, 1 << 40, -1 << 63, 1<<63 - 1} {
		if l, fault, at := lexer.New("a=x\nb=y", room); l != nil || fault != api.ErrArg || at != 0 {
			t.Errorf("New with room %d = %v, %d, %d", room, l, fault, at)
		}
	}
	for room := 2; room <= 1000; room++ {
		made(t, "a=x", room)
	}
}

func TestP4Examples(t *testing.T) {
	expect(t, "if=if\nid=[a-z]+\nsp=\\s+", "if iff!", row(0, 2, 2, 3, 1, 6, -1, 7))
	expect(t, "a=ab\nb=abcd", "abce", row(0, 2, -1, 3, -1, 4))
	expect(t, "a=x+", "xxy", row(0, 2, -1, 3))
}

func TestP4Longest(t *testing.T) {
	expect(t, "a=x\nb=xx\nc=xxxx", "xxxxxxx", row(2, 4, 1, 6, 0, 7))
	expect(t, "a=x+\nb=y", "xxxyyxx", row(0, 3, 1, 4, 1, 5, 0, 7))
	expect(t, "a=x|xyz|xy", "xyzxyx", row(0, 3, 0, 5, 0, 6))
	expect(t, "a=(x|y)*y", "xyxyx", row(0, 4, -1, 5))
	expect(t, "a=x?y?z", "xyzzyzxz", row(0, 3, 0, 4, 0, 6, 0, 8))
	expect(t, "n=[0-9]+(\\.[0-9]+)?\nd=\\.", "12.5.7.", row(0, 4, 1, 5, 0, 6, 1, 7))
	expect(t, "a="+times(60, "x"), times(125, "x"), append(row(0, 60, 0, 120), row(0, 60, 0, 120, -1, 121, -1, 122, -1, 123, -1, 124, -1, 125)[2:]...))
}

func TestP4FirstRuleOfSeveral(t *testing.T) {
	expect(t, "a=x\nb=x", "xx", row(0, 1, 0, 2))
	expect(t, "id=[a-z]+\nif=if", "if", row(0, 2))
	expect(t, "if=if\nid=[a-z]+", "if", row(0, 2))
	expect(t, "if=if\nid=[a-z]+", "iff", row(1, 3))
	expect(t, "z=xy\na=x.\nm=.y", "xyxzzy", row(0, 2, 1, 4, 2, 6))
	// The longest comes ahead of the first.
	expect(t, "a=x\nb=x+", "xxx", row(1, 3))
	last := "a=s\nb=s\nc=s\nd=s\ne=s\nf=s\ng=s\nh=s|t"
	expect(t, last, "tst", row(7, 1, 0, 2, 7, 3))
}

func TestP4NoRuleMatches(t *testing.T) {
	expect(t, "a=x", "", nil)
	expect(t, "a=x", "y", row(-1, 1))
	expect(t, "a=x", "yxzz", row(-1, 1, 0, 2, -1, 3, -1, 4))
	expect(t, "a=xy", "xxxyyx", row(-1, 1, -1, 2, 0, 4, -1, 5, -1, 6))
	expect(t, "a=.", "a\n\n\x00", row(0, 1, -1, 2, -1, 3, 0, 4))
}

func TestP4FurtherAndBack(t *testing.T) {
	expect(t, "a=ab\nb=abcd", "abcabcd", row(0, 2, -1, 3, 1, 7))
	expect(t, "a=x\nb=x*y", "xxxz", row(0, 1, 0, 2, 0, 3, -1, 4))
	expect(t, "a=x\nb=x*y", "xxxyxx", row(1, 4, 0, 5, 0, 6))
	expect(t, "a=x(yz)*", "xyzyzyxy", row(0, 5, -1, 6, 0, 7, -1, 8))
	expect(t, "a=a(bcdefghij)?\nb=bc", "abcdefghiabcdefghij", row(0, 1, 1, 3, -1, 4, -1, 5, -1, 6, -1, 7, -1, 8, -1, 9, 0, 19))
	expect(t, "s='[^']*'\nq='", "'ab'c'd", row(0, 4, -1, 5, 1, 6, -1, 7))
	// Nothing has ended yet, and yet there is nothing to come back to.
	expect(t, "a=xxxy", "xxx", row(-1, 1, -1, 2, -1, 3))
}

func allBytes() string {
	var all [256]byte
	for b := range all {
		all[b] = byte(b)
	}
	return string(all[:])
}

func TestP4AllBytes(t *testing.T) {
	all := allBytes()
	for src, in := range map[string]func(b int) bool{
		"a=x":                    func(b int) bool { return b == 'x' },
		"a=.":                    func(b int) bool { return b != 10 },
		`a=[\x00-\xff]`:          func(b int) bool { return true },
		`a=\x00|\xff`:            func(b int) bool { return b == 0 || b == 255 },
		`a=[^\x00-\xfe]`:         func(b int) bool { return b == 255 },
		`a=[\x3f-\x41\x7f-\xc0]`: func(b int) bool { return b >= 0x3f && b <= 0x41 || b >= 0x7f && b <= 0xc0 },
		`a=[^a-c\n\xf0]`:         func(b int) bool { return (b < 'a' || b > 'c') && b != 10 && b != 0xf0 },
		`a=\n|\t|\s|\\|\-|\^`:    func(b int) bool { return strings.IndexByte("\n\t \\-^", byte(b)) >= 0 },
	} {
		var want []api.Token
		for b := range 256 {
			token := api.Token{Rule: -1, From: b, To: b + 1}
			if in(b) {
				token.Rule = 0
			}
			want = append(want, token)
		}
		expect(t, src, all, want)
	}
	expect(t, `a=[\x00-\xff]+`, all, row(0, 256))
	expect(t, `a=.+`, all, row(0, 10, -1, 11, 0, 256))
}

// tails calls do with every text of at most length bytes of the alphabet.
func tails(alphabet string, length int, do func(string)) {
	var grow func(string)
	grow = func(tail string) {
		do(tail)
		if len(tail) == length {
			return
		}
		for i := range len(alphabet) {
			grow(tail + alphabet[i:i+1])
		}
	}
	grow("")
}

// hold holds Lex against the slow way with lexers of little and of much room,
// that have been asked for other texts before.
func hold(t *testing.T, src string, list []*lexer.Lexer, other slow, text string) {
	t.Helper()
	want := other.lex(text)
	for i, l := range list {
		if got := l.Lex(text); !slices.Equal(got, want) {
			t.Fatalf("%q with room %d: Lex(%q) = %v, want %v", src, rooms()[i], text, got, want)
		}
		expectHeld(t, l, rooms()[i], want)
	}
}

func ofAllRooms(t testing.TB, src string) []*lexer.Lexer {
	t.Helper()
	var list []*lexer.Lexer
	for _, room := range rooms() {
		list = append(list, made(t, src, room))
	}
	return list
}

func TestP4AllShortTexts(t *testing.T) {
	for _, src := range []string{
		"a=a", "a=ab|b+", "a=a\nb=a*b", "a=(a|b)*abb", "a=(ab|c)+", "a=a(b|bc)(cd|d)\nb=bc", "a=(a*b?)*c\nb=a\nc=bb",
		"a=((a?b)+|c)+a\nb=b+a?", "a=[^a]+\nb=a.a", "a=aaa\nb=aa\nc=bcb\nd=cc*a", "a=(a?b?c?)+a\nb=cb?",
	} {
		list, other := ofAllRooms(t, src), newSlow(t, src)
		tails("abc", 7, func(text string) { hold(t, src, list, other, text) })
	}
}

func TestP4MadeUpRules(t *testing.T) {
	w := writer{seed: 11}
	for checked := 0; checked < 3000; {
		src := w.rules()
		if _, fault, _ := rules.Check(src); fault != api.OK {
			continue
		}
		checked++
		list, other := ofAllRooms(t, src), newSlow(t, src)
		for range 12 {
			hold(t, src, list, other, w.text(40))
		}
	}
}

// many is rules of many states: what is open hangs on each of the last bytes.
const many = "a=(a|b)*a(a|b)(a|b)(a|b)(a|b)(a|b)(a|b)(a|b)"

func TestP4Held(t *testing.T) {
	w := writer{seed: 3}
	for _, room := range []int{2, 3, 5, 50, 1000} {
		l := made(t, many, room)
		if held := l.Held(); held != 0 {
			t.Errorf("%d states are held ahead of all texts", held)
		}
		for range 50 {
			text := w.text(200)
			expectHeld(t, l, room, l.Lex(text))
		}
		l.Lex(times(20, "abbabaaabab"))
		if held := l.Held(); held < min(room, 10) || held > room {
			t.Errorf("%d states are held with room %d, of rules that have many", held, room)
		}
	}
}

func TestP4HeldBehindOneToken(t *testing.T) {
	for _, room := range rooms() {
		l := made(t, "a=x", room)
		l.Lex("")
		l.Lex("x")
		if held := l.Held(); held < 1 || held > 2 {
			t.Errorf("%d states are held, of a rule of one byte", held)
		}
	}
}

func TestP4NothingHangsOnRoomOrEarlierTexts(t *testing.T) {
	w := writer{seed: 5}
	var texts []string
	var want [][]api.Token
	for range 40 {
		text := w.text(120)
		texts = append(texts, text)
		want = append(want, made(t, many, 1000).Lex(text))
	}
	for _, room := range rooms() {
		l := made(t, many, room)
		for round := range 400 {
			i := round * 17 % len(texts)
			if got := l.Lex(texts[i]); !slices.Equal(got, want[i]) {
				t.Fatalf("room %d, round %d: Lex(%q) = %v, want %v", room, round, texts[i], got, want[i])
			}
		}
	}
}

func TestP2ListsAreTheCallers(t *testing.T) {
	l := made(t, "a=x\nb=y+", 3)
	want := row(0, 1, 1, 3, -1, 4)
	first := l.Lex("xyyz")
	second := l.Lex("xyyz")
	for i := range first {
		first[i] = api.Token{Rule: 9, From: 9, To: 9}
	}
	first = append(first, first...)
	third := l.Lex("xyyz")
	l.Lex(times(50, "yx!"))
	if !slices.Equal(second, want) || !slices.Equal(third, want) {
		t.Errorf("lists are %v and %v, want %v", second, third, want)
	}
	if first[0].Rule != 9 || len(first) != 6 {
		t.Errorf("the caller's list became %v", first)
	}
}

func TestP2LexersKnowNothingOfOneAnother(t *testing.T) {
	alone, beside, other := made(t, many, 5), made(t, many, 5), made(t, "a=b\nb=a+", 5)
	for _, text := range []string{"abab", "bbbbaababbbaab", "", "c", times(30, "aab")} {
		other.Lex(text)
		made(t, "a=a", 2).Lex(text)
		if a, b := alone.Lex(text), beside.Lex(text); !slices.Equal(a, b) {
			t.Errorf("Lex(%q) is %v and %v", text, a, b)
		}
	}
	fresh := made(t, many, 5)
	if held := fresh.Held(); held != 0 {
		t.Errorf("a new lexer holds %d states", held)
	}
	if alone.Held() != beside.Held() {
		t.Errorf("two lexers asked alike hold %d and %d states", alone.Held(), beside.Held())
	}
}

func TestP4ManyAskAtOnce(t *testing.T) {
	text := times(40, "abbaabcbabaaab")
	want := made(t, many, 1000).Lex(text)
	for _, room := range rooms() {
		l := made(t, many, room)
		var group sync.WaitGroup
		for range 8 {
			group.Go(func() {
				for range 10 {
					if got := l.Lex(text); !slices.Equal(got, want) {
						t.Errorf("room %d: beside others Lex = %v, want %v", room, got, want)
					}
					expectHeld(t, l, room, want)
				}
			})
		}
		group.Wait()
	}
}

// handIn hands in copies of both texts and answers traces of their memory.
func handIn(t *testing.T, src, text string) (*lexer.Lexer, []api.Token, []weak.Pointer[byte]) {
	src, text = strings.Clone(src), strings.Clone(text)
	traces := []weak.Pointer[byte]{weak.Make(unsafe.StringData(src)), weak.Make(unsafe.StringData(text))}
	l := made(t, src, 10)
	return l, l.Lex(text), traces
}

func TestP2TextsAreNotKept(t *testing.T) {
	l, tokens, traces := handIn(t, "abcdefgh=[a-z]+\nij=[0-9]+\nkl=\\.", times(30, "some words 12.5 "))
	runtime.GC()
	for i, trace := range traces {
		if trace.Value() != nil {
			t.Errorf("text %d that was handed in is kept", i)
		}
	}
	if len(tokens) == 0 || l.Held() == 0 {
		t.Error("nothing was told")
	}
}

// P1: looking ahead to the text's end from each of its tokens would not end in
// anyone's time.
func TestP1LongTextsEnd(t *testing.T) {
	const size = 1 << 20
	for _, room := range []int{2, 1000} {
		l := made(t, "a=x\nb=x*y", room)
		if tokens := l.Lex(times(size, "x")); len(tokens) != size || tokens[size-1] != (api.Token{Rule: 0, From: size - 1, To: size}) {
			t.Errorf("%d tokens of so many x", len(tokens))
		}
		if tokens := l.Lex(times(size, "x") + "y"); !slices.Equal(tokens, row(1, size+1)) {
			t.Errorf("%d tokens of one that is long", len(tokens))
		}
		if tokens := made(t, many, room).Lex(times(size/8, "abbabaab") + "c"); len(tokens) != 2 {
			t.Errorf("%d tokens, want 2", len(tokens))
		}
	}
}

func FuzzLex(f *testing.F) {
	f.Add("if=if\nid=[a-z]+\nsp=\\s+", "if iff!")
	f.Add("a=ab\nb=abcd", "abceabcd")
	f.Add(`a=[^\x80-\xff]+|(.\n)*x`, "\x00\x80\n\xffx")
	f.Fuzz(func(t *testing.T, src, text string) {
		count, fault, place := rules.Check(src)
		if fault != api.OK {
			if l, e, at := lexer.New(src, 2); l != nil || e != fault || at != place {
				t.Fatalf("New(%q) = %v, %d, %d, Check %d, %d", src, l, e, at, fault, place)
			}
			return
		}
		if len(text) > 200 || count == 0 {
			return
		}
		hold(t, src, ofAllRooms(t, src), newSlow(t, src), text)
	})
}
