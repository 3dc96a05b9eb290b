package rules_test

import (
	"runtime"
	"strings"
	"sync"
	"testing"
	"unsafe"
	"weak"

	"tessera/api"
	"tessera/rules"
)

type answer struct {
	count int
	fault api.Errno
	at    int
}

func check(src string) answer {
	count, fault, at := rules.Check(src)
	return answer{count, fault, at}
}

func expect(t *testing.T, src string, want answer) {
	t.Helper()
	if got := check(src); got != want {
		t.Errorf("Check(%q) = %v, want %v", src, got, want)
	}
}

func expectText(t *testing.T, src string, at int) {
	t.Helper()
	expect(t, src, answer{0, api.ErrText, at})
}

func times(n int, s string) string { return strings.Repeat(s, n) }

// eight is as many rules as there may be, of 16 nodes in all.
const eight = "a=xx\nb=xx\nc=xx\nd=xx\ne=xx\nf=xx\ng=xx\nh=xx"

func TestP3Examples(t *testing.T) {
	expect(t, "a=x", answer{count: 1})
	expectText(t, "a=", 2)
	expectText(t, "a=x|", 4)
	expect(t, "a=x\na=y", answer{0, api.ErrName, 4})
	expect(t, "a=x*", answer{0, api.ErrEmpty, 0})
	expectText(t, "a=[b-a]", 5)
	expectText(t, `a=[^\x00-\xff]`, 13)
}

func TestP3CountsRules(t *testing.T) {
	for src, want := range map[string]int{
		"a=x\n":                          1,
		"a=x\nb=y":                       2,
		"if=if\nid=[a-z]+\nsp=\\s+":      3,
		eight:                            8,
		eight + "\n":                     8,
		"a=(x|(y|z)+)?q":                 1,
		"a=x?*+?*y":                      1,
		"a=^-=!~\"#$%&',/0:;<>@AZ_`az{}": 1,
		`a=\n\t\s\x00\xff\x7f`:           1,
		`a=\\\.\[\]\(\)\*\+\?\|\-\^`:     1,
		`a=[\\\.\[\]\(\)\*\+\?\|\-\^]`:   1,
		`a=[^\n\t\s\x00\xff]`:            1,
		"a=[.[(*+?|)=!~]":                1,
		"a=[!-,.-Z_-~]":                  1,
		"a=....":                         1,
	} {
		expect(t, src, answer{count: want})
	}
}

func TestP3MaxText(t *testing.T) {
	full := "a=[" + times(396, "x") + "]"
	expect(t, full, answer{count: 1})
	expectText(t, full+"\n", 0)
	// A text that is too long is nothing else, whatever else is wrong in it.
	expectText(t, "a=["+times(397, "x")+"]", 0)
	expectText(t, "a= "+times(398, "x"), 0)
	expectText(t, "a=["+times(398, "x"), 0)
	expectText(t, "a= "+times(397, "x"), 2)
	expectText(t, "a=["+times(397, "x"), 400)
	expectText(t, times(100000, "("), 0)
}

func TestP3MaxName(t *testing.T) {
	expect(t, "abcdefgh=x", answer{count: 1})
	expectText(t, "abcdefghi=x", 8)
	expectText(t, "abcdefghi", 8)
	expectText(t, "abcdefgh", 8)
	expectText(t, "a=x\nabcdefghi=x", 12)
	expect(t, "abcdefgh=x\nabcdefg=x", answer{count: 2})
}

func TestP3MaxNest(t *testing.T) {
	expect(t, "a="+times(20, "(")+"x"+times(20, ")"), answer{count: 1})
	expectText(t, "a="+times(21, "(")+"x"+times(21, ")"), 22)
	expectText(t, "a="+times(21, "("), 22)
	expectText(t, "a="+times(20, "("), 22)
	// Only brackets that are open at once are counted, and only round ones.
	expect(t, "a="+times(25, "(x)"), answer{count: 1})
	expect(t, "a="+times(20, "(")+"[((]\\("+times(20, ")"), answer{count: 1})
	twice := times(20, "(") + "x" + times(20, ")")
	expect(t, "a="+twice+twice+"\nb="+twice, answer{count: 2})
}

func TestP3MaxRules(t *testing.T) {
	expect(t, eight+"\ni=x", answer{0, api.ErrMany, 40})
	expect(t, eight+"\na=x", answer{0, api.ErrMany, 40})
	expect(t, eight+"\ni=x*", answer{0, api.ErrMany, 40})
	expect(t, times(100, "a=x\n"), answer{0, api.ErrName, 4})
}

func TestP3MaxNodes(t *testing.T) {
	for _, piece := range []string{"x", `\x41`, `\n`, ".", "[a-z]", "[^xyz]", "(x)", "((.))"} {
		if len(piece)*60 <= 390 {
			expect(t, "a="+times(60, piece), answer{count: 1})
		}
		if len(piece)*61 <= 390 {
			expect(t, "a="+times(61, piece), answer{0, api.ErrMany, 0})
		}
	}
	for _, mark := range []string{"*", "+", "?"} {
		expect(t, "a=x"+times(58, mark)+"x", answer{count: 1})
		expect(t, "a=x"+times(59, mark)+"x", answer{0, api.ErrMany, 0})
	}
	expect(t, "a="+times(29, "x|")+"xx", answer{count: 1})
	expect(t, "a="+times(29, "x|")+"xxx", answer{0, api.ErrMany, 0})
	expect(t, "a="+times(30, "x|")+"x", answer{0, api.ErrMany, 0})
	expect(t, "a="+times(20, "[a-z]")+"\nb="+times(40, "."), answer{count: 2})
	expect(t, "a="+times(20, "[a-z]")+"\nb="+times(41, "."), answer{0, api.ErrMany, 23 + 80})
}

func TestP3Empty(t *testing.T) {
	for _, match := range []string{
		"x?", "x*", "(x)*", "x+?", "x?+", "x*+", "(x?)+", "(x|y)?", "x|y?", "x?|y",
		"x?y*", "(x*y?)(z|z?)", "(((x?)))", "x|(y|z*)+", "x+|.?",
	} {
		expect(t, "a="+match, answer{0, api.ErrEmpty, 0})
		expect(t, "q=z\na="+match+"\nb=x*", answer{0, api.ErrEmpty, 4})
	}
	for _, match := range []string{
		"x+", "x*y", "xy*", "(x?)+y", "x?(y|z)", "(x|y)+", "x++", "x*y?z", "(x*y)?z|w", "[^x]", "[x]+",
	} {
		expect(t, "a="+match, answer{count: 1})
	}
}

func TestP3FaultyBytes(t *testing.T) {
	for src, at := range map[string]int{
		"=x": 0, "\n": 0, "\na=x": 0, "A=x": 0, "`=x": 0, "{=x": 0, "0=x": 0, " a=x": 0,
		"aA=x": 1, "a =x": 1, "a\n": 1, "a\x00": 1,
		"a=\n": 2, "a= x": 2, "a=|x": 2, "a=*": 2, "a=+": 2, "a=?": 2, "a=)": 2, "a=]": 2, "a=\x20": 2, "a=\x7f": 2, "a=\xff": 2,
		"a=x\r\n": 3, "a=x)": 3, "a=x]": 3, "a=x\x00": 3, "a=x\t": 3,
		"a=x|*": 4, "a=x||y": 4, "a=x|\n": 4, "a=x\n\n": 4, "a=x\n=": 4, "a=x\n b=y": 4,
		"a=()": 3, "a=(|x)": 3, "a=(*)": 3, "a=(x|)": 5, "a=(x\n)": 4, "a=(x]": 4, "a=(x))": 5,
		`a=\q`: 3, `a=\N`: 3, `a=\"`: 3, `a=\/`: 3, "a=\\\n": 3, `a=\=`: 3,
		`a=\xg0`: 4, `a=\xF0`: 4, `a=\x0F`: 5, `a=\x0`: 5, "a=\\x\n": 4, `a=\x)`: 4,
		"a=[]": 3, "a=[]x]": 3, "a=[-": 3, "a=[ ": 3, "a=[\n]": 3, "a=[\x7f]": 3, "a=[^]": 4, "a=[^^]": 4, "a=[x^]": 4, "a=[x ]": 4,
		"a=[x-]": 5, "a=[x--]": 5, "a=[x-^]": 5, "a=[x-z-~]": 6, `a=[\q]`: 4, `a=[x-\q]`: 6, `a=[x-\xyz]`: 7,
	} {
		expectText(t, src, at)
		for _, tail := range []string{"z", "\n", "]", ")", "\xff", "\nb=y"} {
			if at < len(src) {
				expectText(t, src+tail, at)
			}
		}
	}
}

func TestP3EndsTooEarly(t *testing.T) {
	for _, src := range []string{
		"", "a", "ab", "a=", "a=x|", "a=(", "a=(x", "a=(x|", "a=(x|y", "a=((x)", "a=[", "a=[^", "a=[x", "a=[^x", "a=[x-", "a=[x-z",
		`a=\`, `a=\x`, `a=\x4`, `a=[\`, `a=[\x`, `a=[\x4`, `a=[x-\`, `a=[x-\x`, `a=[x-\x7`, "a=x\nb", "a=x\nb=", "a=x*\nb=", `a=[^\x00-\xff`,
	} {
		expectText(t, src, len(src))
	}
}

func TestP3FallingRange(t *testing.T) {
	expect(t, "a=[a-a]", answer{count: 1})
	expectText(t, "a=[b-a", 5)
	expectText(t, "a=[b-a-", 5)
	expectText(t, "a=[xb-a]", 6)
	expectText(t, "a=[^b-a]", 6)
	expectText(t, `a=[\x62-a]`, 8)
	expectText(t, `a=[b-\x61]`, 5)
	expectText(t, `a=[b-\n]`, 5)
	expectText(t, `a=[b-\x61`, 5)
	expect(t, `a=[b-\x62\x80-\xff]`, answer{count: 1})
	// As long as an escape is not whole, there is no b that could be below a.
	expectText(t, `a=[b-\x0`, 8)
	expectText(t, `a=[b-\x0g]`, 8)
}

func TestP3NoByteLeft(t *testing.T) {
	expect(t, `a=[^\x00-\xfe]`, answer{count: 1})
	expect(t, `a=[^\x01-\xff]`, answer{count: 1})
	expect(t, `a=[^\x00-\x7e\x80-\xff]`, answer{count: 1})
	expect(t, `a=[\x00-\xff]`, answer{count: 1})
	expectText(t, `a=[^\x00-\x7f\x80-\xff]`, 22)
	expectText(t, `a=[^\x80-\xff\x00-\x7f]`, 22)
	expectText(t, `a=[^\x00-\xffa]`, 14)
	expectText(t, `a=[^\x00-\xffa-]`, 15)
	expectText(t, `a=(x[^\x00-\xff]) `, 15)
}

func TestP3FirstFault(t *testing.T) {
	// No text of rules comes ahead of all else.
	expectText(t, "a=x*\na=y*\nb=", 12)
	expectText(t, "a="+times(61, "x")+"|", 64)
	expectText(t, eight+"\na=x*|", 45)
	// The first rule with a fault comes ahead of a later one's.
	expect(t, "a=x*\na="+times(61, "x"), answer{0, api.ErrEmpty, 0})
	expect(t, "a=x\na=y\nb="+times(61, "x"), answer{0, api.ErrName, 4})
	expect(t, "a=x\nb=y*\na=x", answer{0, api.ErrEmpty, 4})
	expect(t, "a="+times(61, "x")+"\nb=y*", answer{0, api.ErrMany, 0})
	// Of one rule: too many, then its name, then the empty text.
	expect(t, "a=x\na="+times(60, "x?"), answer{0, api.ErrMany, 4})
	expect(t, "a=x\nb="+times(60, "x?"), answer{0, api.ErrMany, 4})
	expect(t, "a=x\na=y*", answer{0, api.ErrName, 4})
	expect(t, "abc=x\nab=y\nbc=y\nabc=z*", answer{0, api.ErrName, 16})
}

func hold(t *testing.T, src string) {
	t.Helper()
	count, fault, at := slowCheck(src)
	if got, want := check(src), (answer{count, fault, at}); got != want {
		t.Fatalf("Check(%q) = %v, want %v", src, got, want)
	}
}

// tails calls do with every text of at most length bytes of the alphabet.
func tails(alphabet string, length int, do func(string)) {
	var grow func(string)
	grow = func(tail string) {
		do(tail)
		if len(tail) == length {
			return
		}
		for i := range len(alphabet) {
			grow(tail + alphabet[i:i+1])
		}
	}
	grow("")
}

func TestP1P3AllShortTexts(t *testing.T) {
	tails("ab=x|()[]^-\\*+?.n0 \n", 4, func(tail string) {
		hold(t, tail)
		hold(t, "a="+tail)
	})
	for _, head := range []string{
		"a=(x|", "a=(y*", "a=x\n", "a=[", "a=[^", "a=[b-", `a=[\x6`, `a=[b-\x6`, `a=[^\x00-\xf`, `a=[^\x01-\xff`,
		"a=" + times(19, "("), "a=" + times(58, "x"), eight, "abcdefg",
	} {
		tails("abx=|()[]^-\\*?0f\n", 3, func(tail string) { hold(t, head+tail) })
	}
}

func TestP1AnyByteAnywhere(t *testing.T) {
	whole := "if=(a|[b-y]+)?\\x4a\nid=[^\\n-\\xfe]*.\nsp=((\\s|-)\\^)+\n"
	for i := range len(whole) + 1 {
		hold(t, whole[:i])
		for b := range 256 {
			one := string([]byte{byte(b)})
			hold(t, whole[:i]+one)
			hold(t, whole[:i]+one+whole[i:])
			if i < len(whole) {
				hold(t, whole[:i]+one+whole[i+1:])
			}
		}
	}
}

func TestP1AllBytePairs(t *testing.T) {
	for _, head := range []string{"", "a", "a=", "a=x", "a=[", "a=[a", "a=[a-", `a=\`, `a=\x`, "a=x\n"} {
		for pair := range 1 << 16 {
			hold(t, head+string([]byte{byte(pair >> 8), byte(pair)}))
		}
	}
}

// writer makes up texts of rules, always the same ones.
type writer struct{ seed uint32 }

func (w *writer) below(n int) int {
	w.seed = w.seed*1664525 + 1013904223
	return int(w.seed>>16) % n
}

func (w *writer) pick(list ...string) string { return list[w.below(len(list))] }

func (w *writer) text() string {
	var rules []string
	for range 1 + w.below(9) {
		rules = append(rules, w.pick("a", "b", "c", "d", "e", "f", "g", "h", "abcdefgh")+"="+w.either(0))
	}
	return strings.Join(rules, "\n") + w.pick("", "\n")
}

func (w *writer) either(depth int) string {
	out := w.row(depth)
	for w.below(4) == 0 {
		out += "|" + w.row(depth)
	}
	return out
}

func (w *writer) row(depth int) string {
	out := ""
	for out == "" || w.below(3) == 0 {
		out += w.atom(depth) + w.pick("", "", "", "*", "?", "+", "*+")
	}
	return out
}

func (w *writer) atom(depth int) string {
	if depth < 22 && w.below(4) == 0 {
		return "(" + w.either(depth+1) + ")"
	}
	return w.pick("x", "y", ".", `\n`, `\x7f`, `\*`, "[a-z]", "[^xy]", `[\x00-\x20!]`, `[^\x00-\xfe]`, "^", "-")
}

func TestP3MadeUpTexts(t *testing.T) {
	w := writer{seed: 7}
	var seen [5]int
	for range 60000 {
		src := w.text()
		hold(t, src)
		_, fault, _ := rules.Check(src)
		seen[fault]++
		at := w.below(len(src))
		hold(t, src[:at]+string([]byte{byte(w.below(128))})+src[at+1:])
	}
	for fault, count := range seen {
		if count == 0 {
			t.Errorf("no text was made up with the answer %d", fault)
		}
	}
}

func TestP1LongTextsEnd(t *testing.T) {
	for _, piece := range []string{"(", "[", "\\", "a", "a=x\n", "a=(", "|", "*", "\x00", "\xff", "a=[a-"} {
		for _, length := range []int{399, 400, 401, 5000, 1 << 20} {
			hold(t, times(length/len(piece)+1, piece)[:length])
		}
	}
	hold(t, "a=x"+times(397, "*"))
	hold(t, "a=x"+times(397, "+"))
	hold(t, "a="+times(199, "x|"))
	hold(t, "a="+times(19, "(")+times(300, "x?")[:300]+times(19, ")"))
}

func TestP1P2NothingIsKept(t *testing.T) {
	texts := []string{"a=x", "a=x\na=y", "a=x*", "a=[b-a]", eight, eight + "\ni=x", "a=((((", "a=" + times(61, "x")}
	var want []answer
	for _, src := range texts {
		want = append(want, check(src))
	}
	for _, before := range texts {
		for i, src := range texts {
			check(before)
			expect(t, src, want[i])
		}
	}
	var group sync.WaitGroup
	for range 8 {
		group.Go(func() {
			for round := range 200 {
				i := round % len(texts)
				if got := check(texts[i]); got != want[i] {
					t.Errorf("Check(%q) beside others = %v, want %v", texts[i], got, want[i])
				}
			}
		})
	}
	group.Wait()
}

// handIn checks a copy of a text and answers a trace of the copy's memory.
func handIn(t *testing.T, src string) weak.Pointer[byte] {
	copied := strings.Clone(src)
	trace := weak.Make(unsafe.StringData(copied))
	check(copied)
	if copied != src {
		t.Errorf("%q was changed to %q", src, copied)
	}
	return trace
}

func TestP2TextIsNotKeptOrChanged(t *testing.T) {
	for _, src := range []string{eight, eight + "\ni=x", "abcdefgh=" + times(58, "x") + "\nabcdefgh=y", "a=[" + times(90, "x"), times(500, "a")} {
		trace := handIn(t, src)
		runtime.GC()
		if trace.Value() != nil {
			t.Errorf("Check kept %q", src)
		}
	}
}

func FuzzCheck(f *testing.F) {
	for _, src := range []string{"a=x", "a=[b-a]", eight, "a=(x|y*)+", `a=[^\x00-\xff]`} {
		f.Add(src)
	}
	f.Fuzz(hold)
}
