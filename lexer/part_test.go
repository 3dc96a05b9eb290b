package lexer_test

import (
	"runtime"
	"slices"
	"strings"
	"sync"
	"testing"
	"unsafe"
	"weak"

	"tessera/api"
	"tessera/lexer"
	"tessera/rules"
)

func expectCut(t *testing.T, what string, p lexer.Part, want []api.Token) {
	t.Helper()
	if got := p.Cut(); !slices.Equal(got, want) {
		t.Fatalf("%s is cut as %v, want %v", what, got, want)
	}
}

// sums is the parts of a text, between the cuts.
func sums(l *lexer.Lexer, text string, cuts []int) []lexer.Part {
	var parts []lexer.Part
	from := 0
	for _, to := range append(slices.Clone(cuts), len(text)) {
		parts = append(parts, l.Sum(text[from:to]))
		from = to
	}
	return parts
}

func fromLeft(parts []lexer.Part) lexer.Part {
	whole := parts[0]
	for _, part := range parts[1:] {
		whole = lexer.Join(whole, part)
	}
	return whole
}

func fromRight(parts []lexer.Part) lexer.Part {
	whole := parts[len(parts)-1]
	for _, part := range slices.Backward(parts[:len(parts)-1]) {
		whole = lexer.Join(part, whole)
	}
	return whole
}

// inOrder joins any two neighbours, as the writer picks them.
func (w *writer) inOrder(parts []lexer.Part) lexer.Part {
	left := slices.Clone(parts)
	for len(left) > 1 {
		i := w.below(len(left) - 1)
		left = slices.Replace(left, i, i+2, lexer.Join(left[i], left[i+1]))
	}
	return left[0]
}

func TestP6CutOfSum(t *testing.T) {
	for _, c := range []struct {
		src, text string
		want      []api.Token
	}{
		{"if=if\nid=[a-z]+\nsp=\\s+", "if iff!", row(0, 2, 2, 3, 1, 6, -1, 7)},
		{"a=ab\nb=abcd", "abce", row(0, 2, -1, 3, -1, 4)},
		{"a=x+", "xxy", row(0, 2, -1, 3)},
		{"a=x", "", nil},
		{"a=x", "x", row(0, 1)},
		{"a=x", "y", row(-1, 1)},
		{"a=x", "\x00\xff\n", row(-1, 1, -1, 2, -1, 3)},
	} {
		for _, l := range ofAllRooms(t, c.src) {
			expectCut(t, c.text, l.Sum(c.text), c.want)
		}
	}
}

func TestP6JoinedInAnyOrder(t *testing.T) {
	w := writer{seed: 31}
	for checked := 0; checked < 1500; {
		src := w.rules()
		if _, fault, _ := rules.Check(src); fault != api.OK {
			continue
		}
		checked++
		other := newSlow(t, src)
		for i, l := range ofAllRooms(t, src) {
			text := w.text(60)
			want, parts := other.lex(text), sums(l, text, w.cuts(len(text)))
			expectCut(t, "from the left "+text, fromLeft(parts), want)
			expectCut(t, "from the right "+text, fromRight(parts), want)
			for range 3 {
				expectCut(t, "in some order "+text, w.inOrder(parts), want)
			}
			expectHeld(t, l, rooms()[i], want)
		}
	}
}

// brackets calls do with the whole of parts joined in every way there is.
func brackets(parts []lexer.Part, do func(lexer.Part)) {
	if len(parts) == 1 {
		do(parts[0])
	}
	for i := 1; i < len(parts); i++ {
		brackets(parts[:i], func(left lexer.Part) {
			brackets(parts[i:], func(right lexer.Part) { do(lexer.Join(left, right)) })
		})
	}
}

// Parts of the length 1, and of the length 0 beside them.
func TestP6EveryOrderOfSmallParts(t *testing.T) {
	for _, c := range []struct {
		src, text string
		want      []api.Token
	}{
		{"a=ab\nb=abcd", "abcdab", row(1, 4, 0, 6)},
		{"a=ab\nb=abcd", "abcabx", row(0, 2, -1, 3, 0, 5, -1, 6)},
		{"a=x\nb=x*y", "xxxxy", row(1, 5)},
		{"a=x\nb=x*y", "xxxxz", row(0, 1, 0, 2, 0, 3, 0, 4, -1, 5)},
		{"a=xxx", "xxxxx", row(0, 3, -1, 4, -1, 5)},
	} {
		l := made(t, c.src, 2)
		for _, cuts := range [][]int{{1, 2, 3, 4, 5}, {0, 0, 2, 2, 4}, {0, 1, 1, 1, 2, 3, 5}} {
			parts, orders := sums(l, c.text, cuts), 0
			brackets(parts, func(whole lexer.Part) {
				orders++
				expectCut(t, c.text, whole, c.want)
			})
			if orders < 42 {
				t.Errorf("%d parts were joined in %d ways only", len(parts), orders)
			}
		}
	}
}

func TestP6EmptyParts(t *testing.T) {
	l := made(t, "a=xy", 2)
	none, some := l.Sum(""), l.Sum("xy")
	expectCut(t, "nothing", lexer.Join(none, none), nil)
	expectCut(t, "xy ahead of nothing", lexer.Join(some, none), row(0, 2))
	expectCut(t, "xy behind nothing", lexer.Join(none, some), row(0, 2))
	expectCut(t, "x, nothing, y", lexer.Join(lexer.Join(l.Sum("x"), none), lexer.Join(none, l.Sum("y"))), row(0, 2))
	// Nothing is twice nothing, as often as one likes.
	for range 100 {
		none = lexer.Join(none, none)
	}
	expectCut(t, "nothing again and again", none, nil)
	expectCut(t, "xy behind it", lexer.Join(none, some), row(0, 2))
	// No method gave these, but Join takes them.
	expectCut(t, "no part at all", lexer.Join(lexer.Part{}, lexer.Part{}), nil)
	expectCut(t, "no part and one", lexer.Join(lexer.Part{}, some), row(0, 2))
	expectCut(t, "one and no part", lexer.Join(some, lexer.Part{}), row(0, 2))
}

func TestP6PartsStayAsTheyAre(t *testing.T) {
	l := made(t, "a=x\nb=x+y\nc=z", 3)
	x, y := l.Sum("xx"), l.Sum("yz")
	both, back := lexer.Join(x, y), lexer.Join(y, x)
	// Joined twice behind one part: what one lays behind it is not the other's.
	one, two := lexer.Join(both, l.Sum("z")), lexer.Join(both, l.Sum("xy"))
	for range 3 {
		for _, c := range []struct {
			what string
			part lexer.Part
			want []api.Token
		}{
			{"xx", x, row(0, 1, 0, 2)},
			{"yz", y, row(-1, 1, 2, 2)},
			{"xxyz", both, row(1, 3, 2, 4)},
			{"yzxx", back, row(-1, 1, 2, 2, 0, 3, 0, 4)},
			{"xxyzz", one, row(1, 3, 2, 4, 2, 5)},
			{"xxyzxy", two, row(1, 3, 2, 4, 1, 6)},
			{"xxyzxxyz", lexer.Join(both, both), row(1, 3, 2, 4, 1, 7, 2, 8)},
		} {
			got := c.part.Cut()
			expectCut(t, c.what, c.part, c.want)
			for i := range got {
				got[i] = api.Token{Rule: 9, From: 9, To: 9}
			}
			got = append(got[:0], api.Token{Rule: 8})
			expectCut(t, c.what+" again", c.part, c.want)
			if got[0].Rule != 8 {
				t.Errorf("the caller's list became %v", got)
			}
		}
		l.Lex("zzzxxy")
	}
}

func TestP6PartsOfTwoLexers(t *testing.T) {
	a, b := made(t, "a=x", 2), made(t, "a=y\nb=xy", 2)
	for _, c := range [][2]lexer.Part{{a.Sum("x"), b.Sum("y")}, {a.Sum(""), b.Sum("y")}, {a.Sum("x"), b.Sum("")}, {a.Sum(""), b.Sum("")}} {
		lexer.Join(c[0], c[1]).Cut()
	}
	expectCut(t, "x", a.Sum("x"), row(0, 1))
	expectCut(t, "xy", b.Sum("xy"), row(1, 2))
}

func TestP6CutHoldsStates(t *testing.T) {
	for _, room := range rooms() {
		l := made(t, many, room)
		whole := lexer.Join(l.Sum(times(20, "abbab")), l.Sum(times(20, "bba")))
		expectHeld(t, l, room, nil)
		expectHeld(t, l, room, whole.Cut())
	}
}

func TestP6ManyCutAtOnce(t *testing.T) {
	l := made(t, many, 5)
	const text = "abbabbaabbabaabcbababaabb"
	whole := fromLeft(sums(l, text, []int{3, 9, 9, 20}))
	want := newSlow(t, many).lex(text)
	var group sync.WaitGroup
	for range 8 {
		group.Go(func() {
			for range 10 {
				if got := lexer.Join(whole, l.Sum("")).Cut(); !slices.Equal(got, want) {
					t.Errorf("beside others Cut = %v, want %v", got, want)
				}
			}
		})
	}
	group.Wait()
}

func sumUp(l *lexer.Lexer) (lexer.Part, []weak.Pointer[byte]) {
	one, two := strings.Clone(times(30, "some words ")), strings.Clone(times(30, "12.5 "))
	traces := []weak.Pointer[byte]{weak.Make(unsafe.StringData(one)), weak.Make(unsafe.StringData(two))}
	return lexer.Join(l.Sum(one), lexer.Join(l.Sum(""), l.Sum(two))), traces
}

func TestP2PartsKeepNoText(t *testing.T) {
	l := made(t, "a=[a-z]+\nb=[0-9.]+\nc=\\s", 10)
	whole, traces := sumUp(l)
	runtime.GC()
	for i, trace := range traces {
		if trace.Value() != nil {
			t.Errorf("text %d that was handed in is kept", i)
		}
	}
	expectCut(t, "what was joined", whole, l.Lex(times(30, "some words ")+times(30, "12.5 ")))
}

// P1: a part that is joined byte by byte is neither copied at each byte nor
// gone through by calls that nest as deep.
func TestP1LongPartsEnd(t *testing.T) {
	const size = 1 << 20
	l := made(t, "a=x\nb=x*y", 3)
	left, right, x := l.Sum("x"), l.Sum("y"), l.Sum("x")
	for range size {
		left, right = lexer.Join(left, x), lexer.Join(x, right)
	}
	expectCut(t, "what was joined from the right", right, row(1, size+1))
	if tokens := left.Cut(); len(tokens) != size+1 {
		t.Errorf("%d tokens of what was joined from the left", len(tokens))
	}
	twice := x
	for range 20 {
		twice = lexer.Join(twice, twice)
	}
	expectCut(t, "what was doubled", lexer.Join(twice, l.Sum("y")), row(1, size+1))
	// No text of such a length could be cut, but it may be joined.
	for range 200 {
		twice = lexer.Join(twice, twice)
	}
	expectCut(t, "x", x, row(0, 1))
}
