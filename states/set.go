// Package states says how rules stand at a place of a text: which of their
// atoms may match the next byte, and which of the rules may end there.
package states

import (
	"iter"
	"math/bits"
)

// Set is a set of small numbers: those below firstEnd are atoms, and firstEnd+i is the
// end of rule i. A state is the set of all that may come next.
type Set [2]uint64

// The ends of rules have a word of their own, behind that of the atoms.
const firstEnd = 64

// Atoms is the set of all atoms there could be.
func Atoms() Set { return Set{1<<firstEnd - 1} }

func (s Set) with(number int) Set {
	s[number/64] |= 1 << (number % 64)
	return s
}

func (s Set) union(other Set) Set {
	for i, word := range other {
		s[i] |= word
	}
	return s
}

// Meets tells whether the two have a number in common.
func (s Set) Meets(other Set) bool {
	for i, word := range other {
		if s[i]&word != 0 {
			return true
		}
	}
	return false
}

// GoesOn tells whether a byte could come next. Each atom matches some byte, and
// from each there is a way to the end of its rule: so a rule could end later.
func (s Set) GoesOn() bool { return s.Meets(Atoms()) }

// Rule is the first rule that may end here, or -1.
func (s Set) Rule() int {
	if s[1] == 0 {
		return -1
	}
	return bits.TrailingZeros64(s[1])
}

func (s Set) atoms() iter.Seq[int] {
	return func(yield func(int) bool) {
		for word := s[0]; word != 0; word &= word - 1 {
			if !yield(bits.TrailingZeros64(word)) {
				return
			}
		}
	}
}
