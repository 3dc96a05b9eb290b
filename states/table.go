package states

import "sync"

// Table holds states that were met, and where bytes lead from them. Many may
// ask it at once.
type Table struct {
	plan *Plan
	room int

	once  sync.Once
	first Set

	lock sync.Mutex
	held map[Set]*row
}

// row is where each byte leads. The empty set stands for what is not known
// yet; where a byte leads nowhere, that is found out each time.
type row [256]Set

// NewTable makes a table that never holds more states than room.
func NewTable(plan *Plan, room int) *Table {
	return &Table{plan: plan, room: room, held: map[Set]*row{}}
}

// First is the state at the beginning of a token.
func (t *Table) First() Set {
	t.once.Do(func() {
		t.lock.Lock()
		defer t.lock.Unlock()
		t.first = t.plan.first()
		t.hold(t.first)
	})
	return t.first
}

// Step is the state behind a byte, from the one ahead of it.
func (t *Table) Step(from Set, b byte) Set {
	t.lock.Lock()
	defer t.lock.Unlock()
	known := t.held[from]
	if known != nil && known[b] != (Set{}) {
		return known[b]
	}
	state := t.plan.step(from, b)
	if known != nil {
		known[b] = state
	}
	t.hold(state)
	return state
}

// hold keeps a state while there is room. None has to leave for another: so
// how many are held does not hang on who asks first, and a state without a
// place in the table is soon worked out again. The empty one is none: nothing
// is ever asked from there.
func (t *Table) hold(state Set) {
	if state != (Set{}) && t.held[state] == nil && len(t.held) < t.room {
		t.held[state] = &row{}
	}
}

// Held tells how many states the table holds.
func (t *Table) Held() int {
	t.lock.Lock()
	defer t.lock.Unlock()
	return len(t.held)
}
