package lexer

import (
	"slices"
	"sync"
	"sync/atomic"
	"testing"
	"time"

	"tessera/api"
	"tessera/states"
)

// Ways: so many workers look at parts at once. Each waits here until all of
// them have a part.
func TestWorkersWorkAtOnce(t *testing.T) {
	for workers := 1; workers <= api.MaxWorkers; workers++ {
		var arrived sync.WaitGroup
		arrived.Add(workers)
		share(workers, workers, func(int) {
			arrived.Done()
			arrived.Wait()
		})
	}
}

func TestNoMoreWorkersThanAskedFor(t *testing.T) {
	for _, workers := range []int{1, 3} {
		var busy, most atomic.Int64
		share(60, workers, func(int) {
			now := busy.Add(1)
			for seen := most.Load(); now > seen && !most.CompareAndSwap(seen, now); seen = most.Load() {
			}
			time.Sleep(time.Millisecond)
			busy.Add(-1)
		})
		if most.Load() > int64(workers) {
			t.Errorf("%d workers were busy at once, not %d", most.Load(), workers)
		}
	}
}

func TestEveryPartIsTakenOnce(t *testing.T) {
	for _, parts := range []int{0, 1, 2, 15, 16, 17, 500} {
		for workers := 1; workers <= api.MaxWorkers; workers++ {
			taken := make([]int, parts)
			share(parts, workers, func(part int) { taken[part]++ })
			if !slices.Equal(taken, slices.Repeat([]int{1}, parts)) {
				t.Errorf("%d parts, %d workers: taken so often: %v", parts, workers, taken)
			}
		}
	}
}

func newLexer(t *testing.T, src string) *Lexer {
	t.Helper()
	l, fault, at := New(src, 3)
	if fault != api.OK {
		t.Fatalf("New(%q): %d, %d", src, fault, at)
	}
	return l
}

// What a worker found is what is told, as far as it was right.
func TestFollowTakesWhatWasFound(t *testing.T) {
	l := newLexer(t, "a=x+\nb=y")
	r := l.read("xxxyxyy")
	r.lead(0, 7)
	ahead, behind := r.cut(0, 2), r.cut(2, 6)
	if len(ahead.tokens) != 0 || ahead.from != 0 || len(behind.tokens) != 4 {
		t.Fatalf("found were %v and %v", ahead.tokens, behind.tokens)
	}
	// The first of them is not right, as a token goes on into the part.
	for i := range behind.tokens {
		behind.tokens[i].Rule += 10
	}
	whole := r.cut(0, 0)
	whole.follow(&ahead)
	whole.follow(&behind)
	want := []api.Token{{Rule: 0, From: 0, To: 3}, {Rule: 11, From: 3, To: 4}, {Rule: 10, From: 4, To: 5}, {Rule: 11, From: 5, To: 6}}
	if !slices.Equal(whole.tokens, want) || whole.at != 6 || whole.from != 6 {
		t.Errorf("told is %v up to %d, want %v", whole.tokens, whole.at, want)
	}
}

// The token that a worker did not come to the end of is gone on with.
func TestFollowTakesTheOpenToken(t *testing.T) {
	l := newLexer(t, "a=x+\nb=y")
	r := l.read("xyxxx")
	r.lead(0, 5)
	whole, found, last := r.cut(0, 2), r.cut(2, 4), r.cut(4, 5)
	own := found.state
	found.state = states.Set{99, 99}
	whole.follow(&found)
	if whole.from != 2 || whole.at != 4 || whole.state != found.state || len(whole.tokens) != 2 {
		t.Errorf("followed from %d to %d, with %v: %v", whole.from, whole.at, whole.state, whole.tokens)
	}
	whole.state = own
	whole.follow(&last)
	if want := l.Lex("xyxxx"); !slices.Equal(whole.tokens, want) {
		t.Errorf("told is %v, want %v", whole.tokens, want)
	}
}

func TestMendedAsTheWhole(t *testing.T) {
	l := newLexer(t, "a=x\nb=x*y\nc=z(xz)*y")
	const text = "zxxxzxzxxxyxzxzxzy"
	want := l.read(text)
	want.lead(0, len(text))
	for cut := range len(text) + 1 {
		r := l.read(text)
		r.lead(0, cut)
		r.lead(cut, len(text))
		r.mend(0, cut)
		if !slices.Equal(r.leading, want.leading) {
			t.Errorf("cut at %d, what leads on is %v, want %v", cut, r.leading, want.leading)
		}
	}
}

// Far ahead of a cut nothing hangs on it, and nothing is worked out anew.
func TestMendStops(t *testing.T) {
	l := newLexer(t, "a=xy")
	r := l.read("xyxyxy")
	r.lead(0, 5)
	r.lead(5, 6)
	wrong := states.Set{99, 99}
	r.leading[1] = wrong
	r.mend(0, 5)
	if r.leading[1] != wrong {
		t.Error("what no cut could change was worked out anew")
	}
	r.leading[1] = r.leading[3]
	whole := l.read("xyxyxy")
	whole.lead(0, 6)
	if !slices.Equal(r.leading, whole.leading) {
		t.Errorf("what leads on is %v, want %v", r.leading, whole.leading)
	}
}

// There is no room in the table for what leads nowhere.
func TestOnlyWhatLeadsOnIsHeld(t *testing.T) {
	l := newLexer(t, "a=xyz")
	if tokens := l.Lex("xyxyxyw"); len(tokens) != 7 || l.Held() != 1 {
		t.Errorf("%v are told, and %d states are held", tokens, l.Held())
	}
}
