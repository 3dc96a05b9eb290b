package syntax

// Set is a set of bytes, a bit for each of them.
type Set [4]uint64

// Has tells whether the byte is in the set.
func (s Set) Has(b byte) bool { return s[b/64]>>(b%64)&1 == 1 }

// span is the set of the bytes from low up to high, with both. It counts in
// ints, since a byte that has reached 255 would never get past it.
func span(low, high byte) Set {
	var set Set
	for b := int(low); b <= int(high); b++ {
		set[b/64] |= 1 << (b % 64)
	}
	return set
}

// with is the set of the bytes that are in one of the two.
func (s Set) with(other Set) Set {
	for i, word := range other {
		s[i] |= word
	}
	return s
}

// rest is the set of the bytes that are not in this one.
func (s Set) rest() Set {
	for i, word := range s {
		s[i] = ^word
	}
	return s
}
