package lexer_test

import (
	"runtime"
	"slices"
	"strings"
	"sync"
	"testing"
	"time"
	"unsafe"
	"weak"

	"tessera/api"
	"tessera/lexer"
	"tessera/rules"
)

func expectParted(t *testing.T, l *lexer.Lexer, text string, cuts []int, workers int, want []api.Token) {
	t.Helper()
	if got, fault := l.Parted(text, cuts, workers); !slices.Equal(got, want) || fault != api.OK {
		t.Fatalf("Parted(%q, %v, %d) = %v, %d, want %v", text, cuts, workers, got, fault, want)
	}
}

// cutsOf is the places whose bit is set.
func cutsOf(bits, length int) []int {
	var cuts []int
	for at := range length + 1 {
		if bits>>at&1 == 1 {
			cuts = append(cuts, at)
		}
	}
	return cuts
}

func TestP5WrongArguments(t *testing.T) {
	const most, least = 1<<63 - 1, -1 << 63
	for _, c := range []struct {
		text    string
		cuts    []int
		workers int
	}{
		{"abc", nil, 0}, {"abc", nil, -1}, {"abc", nil, 17}, {"abc", nil, most}, {"abc", nil, least}, {"", nil, 0}, {"", nil, 17},
		{"abc", []int{1, 2}, 0}, {"abc", []int{1, 2}, 17}, {"abc", []int{2, 1}, 0},
		{"abc", []int{2, 1}, 1}, {"abc", []int{1, 0}, 16}, {"abc", []int{0, 1, 2, 3, 2}, 2}, {"abc", []int{3, 0}, 2}, {"abc", []int{0, 2, 1, 3}, 2},
		{"abc", []int{-1}, 1}, {"abc", []int{-1, 2}, 1}, {"abc", []int{1, -1}, 1}, {"abc", []int{least}, 1}, {"", []int{-1}, 1},
		{"abc", []int{4}, 1}, {"abc", []int{1, 4}, 1}, {"abc", []int{4, 1}, 1}, {"abc", []int{most}, 1}, {"", []int{1}, 1}, {"", []int{0, 1}, 1},
	} {
		l := made(t, "a=[a-z]", 5)
		if got, fault := l.Parted(c.text, c.cuts, c.workers); got != nil || fault != api.ErrArg {
			t.Errorf("Parted%v = %v, %d", c, got, fault)
		}
		if l.Held() != 0 {
			t.Errorf("behind the wrong Parted%v, %d states are held", c, l.Held())
		}
		expectParted(t, l, "abc", []int{1}, 2, row(0, 1, 0, 2, 0, 3))
	}
}

func TestP5PlacesOfCuts(t *testing.T) {
	const src, text = "if=if\nid=[a-z]+\nsp=\\s+", "if iff!"
	want := row(0, 2, 2, 3, 1, 6, -1, 7)
	for _, cuts := range [][]int{
		nil, {}, {0}, {7}, {0, 7}, {0, 0, 0}, {7, 7, 7}, {3, 3, 3, 3}, {0, 0, 2, 2, 7, 7}, {1}, {4}, {5}, {6},
		{0, 1, 2, 3, 4, 5, 6, 7}, slices.Repeat([]int{4}, 100), append(make([]int, 50), slices.Repeat([]int{7}, 50)...),
	} {
		for workers := 1; workers <= 16; workers++ {
			for _, l := range ofAllRooms(t, src) {
				expectParted(t, l, text, cuts, workers, want)
			}
		}
	}
}

func TestP5NoText(t *testing.T) {
	for _, cuts := range [][]int{nil, {}, {0}, {0, 0, 0}} {
		for workers := 1; workers <= 16; workers++ {
			if got, fault := made(t, "a=x", 2).Parted("", cuts, workers); len(got) != 0 || fault != api.OK {
				t.Errorf("Parted of nothing, cut at %v, is %v, %d", cuts, got, fault)
			}
		}
	}
}

// All ways to cut texts: inside of a token, inside of a match that is found
// only by going further, and where that comes to nothing and one comes back.
func TestP5CutsAnywhere(t *testing.T) {
	for _, c := range []struct {
		src, text string
		want      []api.Token
	}{
		{"a=x+", "xxxxxyxx", row(0, 5, -1, 6, 0, 8)},
		{"a=ab\nb=abcd", "abcabcde", row(0, 2, -1, 3, 1, 7, -1, 8)},
		{"a=ab\nb=abababab", "abababab", row(1, 8)},
		{"a=ab\nb=abababab", "abababa", row(0, 2, 0, 4, 0, 6, -1, 7)},
		{"a=x\nb=x*y", "xxxxxxz", row(0, 1, 0, 2, 0, 3, 0, 4, 0, 5, 0, 6, -1, 7)},
		{"a=x\nb=x*y", "xxxxxyx", row(1, 6, 0, 7)},
		// From no place but the first are the tokens those of the whole.
		{"a=xxx", "xxxxxxxx", row(0, 3, 0, 6, -1, 7, -1, 8)},
		{"s='[^']*'\nw=[a-z]", "'a'b'c'd", row(0, 3, 1, 4, 0, 7, 1, 8)},
		{"s=\"(\\\\.|[^\\\\\"])*\"\nx=.", `"\"a\\"b`, row(0, 7, 1, 8)},
	} {
		for _, room := range []int{2, 1000} {
			l := made(t, c.src, room)
			for bits := range 1 << (len(c.text) + 1) {
				for _, workers := range []int{1, 2, 3, 16} {
					expectParted(t, l, c.text, cutsOf(bits, len(c.text)), workers, c.want)
				}
			}
		}
	}
}

func TestP5AllShortTexts(t *testing.T) {
	for _, src := range []string{
		"a=ab|b+", "a=a\nb=a*b", "a=(a|b)*abb", "a=a(b|bc)(cd|d)\nb=bc", "a=((a?b)+|c)+a\nb=b+a?", "a=aaa\nb=aa\nc=bcb\nd=cc*a",
	} {
		l, other := made(t, src, 3), newSlow(t, src)
		tails("abc", 5, func(text string) {
			want := other.lex(text)
			for bits := range 1 << (len(text) + 1) {
				expectParted(t, l, text, cutsOf(bits, len(text)), 1+bits%4, want)
			}
		})
	}
}

// cuts makes up places of a text that rise.
func (w *writer) cuts(length int) []int {
	var cuts []int
	for range w.below(12) {
		cuts = append(cuts, w.below(length+1))
	}
	slices.Sort(cuts)
	return cuts
}

func TestP5MadeUpRules(t *testing.T) {
	w := writer{seed: 23}
	for checked := 0; checked < 1500; {
		src := w.rules()
		if _, fault, _ := rules.Check(src); fault != api.OK {
			continue
		}
		checked++
		other := newSlow(t, src)
		for i, l := range ofAllRooms(t, src) {
			for range 4 {
				text := w.text(60)
				want := other.lex(text)
				expectParted(t, l, text, w.cuts(len(text)), 1+w.below(16), want)
				expectHeld(t, l, rooms()[i], want)
			}
		}
	}
}

func TestP5EveryNumberOfWorkers(t *testing.T) {
	w := writer{seed: 29}
	for _, src := range []string{many, "a=ab\nb=abababab", "a=a\nb=a*c"} {
		for _, room := range rooms() {
			for workers := 1; workers <= 16; workers++ {
				l, text := made(t, src, room), w.text(300)
				want := made(t, src, 1000).Lex(text)
				for range 3 {
					expectParted(t, l, text, w.cuts(len(text)), workers, want)
					expectHeld(t, l, room, want)
				}
			}
		}
	}
}

// What is held hangs on what was asked, not on which worker came first.
func TestP5HeldDoesNotHangOnWorkers(t *testing.T) {
	text := times(20, "abbaababbbaaab")
	for _, room := range []int{2, 5, 40, 1000} {
		for _, cuts := range [][]int{nil, {100}, {10, 20, 20, 77, 150, 280}} {
			want := -1
			for round := range 48 {
				l := made(t, many, room)
				if _, fault := l.Parted(text, cuts, 1+round%16); fault != api.OK {
					t.Fatalf("Parted at %v: %d", cuts, fault)
				}
				if want < 0 {
					want = l.Held()
				}
				if got := l.Held(); got != want || got > room || got == 0 {
					t.Fatalf("room %d, cut at %v: %d states are held, and %d were", room, cuts, got, want)
				}
			}
		}
	}
}

func TestP5ManyAskAtOnce(t *testing.T) {
	text := times(10, "abbaabcbabaaab")
	want := made(t, many, 1000).Lex(text)
	for _, room := range rooms() {
		l := made(t, many, room)
		var group sync.WaitGroup
		for asker := range 8 {
			group.Go(func() {
				w := writer{seed: uint32(asker)}
				for range 10 {
					cuts := w.cuts(len(text))
					if got, fault := l.Parted(text, cuts, 1+w.below(16)); !slices.Equal(got, want) || fault != api.OK {
						t.Errorf("room %d: beside others Parted at %v = %v, %d, want %v", room, cuts, got, fault, want)
					}
					if got := l.Lex(text); !slices.Equal(got, want) {
						t.Errorf("room %d: beside others Lex = %v, want %v", room, got, want)
					}
					expectHeld(t, l, room, want)
				}
			})
		}
		group.Wait()
	}
}

func TestP5CutsStayAsTheyAre(t *testing.T) {
	l := made(t, "a=x+\nb=y", 4)
	const text = "xxyxxxyyx"
	// There is room behind the cuts that an append would write to.
	all := []int{0, 2, 2, 5, 8, 9, 77, 78, 79}
	before := slices.Clone(all)
	for end := range 7 {
		expectParted(t, l, text, all[:end], 3, row(0, 2, 1, 3, 0, 6, 1, 7, 1, 8, 0, 9))
		if !slices.Equal(all, before) {
			t.Fatalf("the cuts %v became %v", before, all)
		}
	}
	for _, wrong := range [][]int{{5, 2, 3}, {9, 10}, {3, -1}} {
		before := slices.Clone(wrong)
		l.Parted(text, wrong, 3)
		if !slices.Equal(wrong, before) {
			t.Errorf("the cuts %v became %v", before, wrong)
		}
	}
}

func TestP2PartedListsAreTheCallers(t *testing.T) {
	l := made(t, "a=x\nb=y+", 3)
	want := row(0, 1, 1, 3, -1, 4)
	for _, cuts := range [][]int{nil, {2}, {0, 1, 2, 3, 4}} {
		first, _ := l.Parted("xyyz", cuts, 2)
		second, _ := l.Parted("xyyz", cuts, 2)
		for i := range first {
			first[i] = api.Token{Rule: 9, From: 9, To: 9}
		}
		first = append(first, first...)
		expectParted(t, l, "xyyz", cuts, 2, want)
		if !slices.Equal(second, want) || first[0].Rule != 9 {
			t.Errorf("the lists are %v and %v", first, second)
		}
	}
}

func partAway(t *testing.T, l *lexer.Lexer) (weak.Pointer[byte], weak.Pointer[int]) {
	text, cuts := strings.Clone(times(30, "some words 12.5 ")), slices.Repeat([]int{7}, 50)
	expectParted(t, l, text, cuts, 4, l.Lex(text))
	return weak.Make(unsafe.StringData(text)), weak.Make(&cuts[0])
}

func TestP2PartedKeepsNothing(t *testing.T) {
	l := made(t, "a=[a-z]+\nb=[0-9]+", 10)
	text, cuts := partAway(t, l)
	if !inTime(func() bool {
		runtime.GC()
		return text.Value() == nil && cuts.Value() == nil
	}) {
		t.Error("what was handed in is kept")
	}
	runtime.KeepAlive(l)
}

// inTime gives something time to become true: a worker tells the group that it
// is done a moment ahead of its end.
func inTime(done func() bool) bool {
	for range 200 {
		if done() {
			return true
		}
		time.Sleep(10 * time.Millisecond)
	}
	return false
}

func TestP1WorkersEnd(t *testing.T) {
	before := runtime.NumGoroutine()
	l := made(t, many, 10)
	for range 50 {
		l.Parted(times(20, "abb"), []int{10, 20, 30}, 16)
		l.Parted("", nil, 16)
		l.Parted("a", []int{2}, 16)
	}
	if !inTime(func() bool { return runtime.NumGoroutine() <= before }) {
		t.Errorf("%d goroutines are left, and %d were there", runtime.NumGoroutine(), before)
	}
}

// P1: were a worker to follow a token beyond its part, or the whole cut anew
// for each part, this would not end in anyone's time.
func TestP1ManyCutsEnd(t *testing.T) {
	const size = 1 << 17
	var cuts []int
	for at := range size + 1 {
		cuts = append(cuts, at)
	}
	for _, room := range []int{2, 1000} {
		expectParted(t, made(t, "a=x+", room), times(size, "x"), cuts, 16, row(0, size))
		expectParted(t, made(t, "a=x\nb=x*y", room), times(size-1, "x")+"y", cuts, 16, row(1, size))
		for src, text := range map[string]string{
			"a=x\nb=x*y": times(size, "x"), "a=ab\nb=(ab)*c": times(size/2, "ab"), many: times(size/8, "abbabaab"),
		} {
			l := made(t, src, room)
			got, fault := l.Parted(text, cuts, 16)
			if want := l.Lex(text); !slices.Equal(got, want) || fault != api.OK {
				t.Errorf("%q: %d tokens and %d, want %d", src, len(got), fault, len(want))
			}
		}
	}
	same := slices.Repeat([]int{1}, size)
	expectParted(t, made(t, "a=x+", 2), "xxy", same, 16, row(0, 2, -1, 3))
}

func FuzzParted(f *testing.F) {
	f.Add("if=if\nid=[a-z]+\nsp=\\s+", "if iff!", []byte{1, 4, 4}, 2)
	f.Add("a=ab\nb=abababab", "ababababa", []byte{0, 9, 3}, 16)
	f.Add("a=x", "xx", []byte{3}, 0)
	f.Fuzz(func(t *testing.T, src, text string, places []byte, workers int) {
		if _, fault, _ := rules.Check(src); fault != api.OK || len(text) > 200 {
			return
		}
		l := made(t, src, 3)
		var cuts []int
		for _, place := range places {
			cuts = append(cuts, int(place))
		}
		got, fault := l.Parted(text, cuts, workers)
		wrong := workers < 1 || workers > 16 || !slices.IsSorted(cuts) || len(cuts) > 0 && cuts[len(cuts)-1] > len(text)
		if wrong && (got != nil || fault != api.ErrArg) {
			t.Fatalf("Parted(%q, %v, %d) = %v, %d", text, cuts, workers, got, fault)
		}
		if want := newSlow(t, src).lex(text); !wrong && (!slices.Equal(got, want) || fault != api.OK) {
			t.Fatalf("%q: Parted(%q, %v, %d) = %v, %d, want %v", src, text, cuts, workers, got, fault, want)
		}
	})
}
