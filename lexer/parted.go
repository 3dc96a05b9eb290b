package lexer

import (
	"slices"
	"sort"
	"sync"
	"sync/atomic"

	"tessera/api"
)

// Parted cuts a text that is parted among workers (P5). A worker does not know
// what stands ahead of its part, so it takes a token to begin there; how far
// that was right is seen when all of them are done.
func (l *Lexer) Parted(text string, cuts []int, workers int) ([]api.Token, api.Errno) {
	if workers < 1 || workers > api.MaxWorkers || !rise(cuts, len(text)) {
		return nil, api.ErrArg
	}
	bounds := slices.Concat([]int{0}, cuts, []int{len(text)})
	parts := len(bounds) - 1
	r := l.read(text)
	share(parts, workers, func(i int) { r.lead(bounds[i], bounds[i+1]) })
	for i := parts - 2; i >= 0; i-- {
		r.mend(bounds[i], bounds[i+1])
	}
	found := make([]run, parts)
	share(parts, workers, func(i int) { found[i] = r.cut(bounds[i], bounds[i+1]) })
	whole := r.cut(0, 0)
	for i := range found {
		whole.follow(&found[i])
	}
	return whole.tokens, api.OK
}

// rise tells whether the cuts are places of a text of that length, none behind
// the next.
func rise(cuts []int, length int) bool {
	last := 0
	for _, cut := range cuts {
		if cut < last || cut > length {
			return false
		}
		last = cut
	}
	return true
}

// share lets workers take the numbers of all parts, and waits for them.
func share(parts, workers int, do func(part int)) {
	var taken atomic.Int64
	var group sync.WaitGroup
	for range workers {
		group.Add(1)
		go func() {
			defer group.Done()
			for i := int(taken.Add(1)) - 1; i < parts; i = int(taken.Add(1)) - 1 {
				do(i)
			}
		}()
	}
	group.Wait()
}

// follow goes on to where another run has come to, step by step until a token
// begins in both at one place: from there on the other one was right.
func (c *run) follow(other *run) {
	for c.at < other.at {
		if c.at == c.from && c.adopt(other) {
			return
		}
		c.step()
	}
}

// adopt goes on as the other run did from the token that begins here, if one
// does there.
func (c *run) adopt(other *run) bool {
	behind := sort.Search(len(other.tokens), func(i int) bool { return other.tokens[i].From >= c.from })
	begin := other.from
	if behind < len(other.tokens) {
		begin = other.tokens[behind].From
	}
	if begin != c.from {
		return false
	}
	c.tokens = append(c.tokens, other.tokens[behind:]...)
	c.from, c.at, c.state = other.from, other.at, other.state
	return true
}
