// Package word is layer 1, words of 32 bits and rows of them: see shared/doc/01-word.md.
package word

// drawBit is api's DrawBit, written out once more because this layer calls nothing, api neither.
const drawBit = 1 << 31

// IsDraw tells whether a word is a draw's.
func IsDraw(w uint32) bool { return w&drawBit != 0 }

// Draw answers n as a draw's word.
func Draw(n uint32) uint32 { return n | drawBit }

// Same tells whether two rows have the same words in one order.
func Same(a, b []uint32) bool {
	if len(a) != len(b) {
		return false
	}
	for i := range len(a) {
		if a[i] != b[i] {
			return false
		}
	}
	return true
}

// Has tells whether a word is in a row.
func Has(l []uint32, w uint32) bool {
	for i := range len(l) {
		if l[i] == w {
			return true
		}
	}
	return false
}

// Find answers the least place of l at which part is found.
func Find(l, part []uint32) (int, bool) {
	// A part that is longer than l has no place: a range over a number below 1 does nothing.
	for at := range len(l) - len(part) + 1 {
		if Same(l[at:at+len(part)], part) {
			return at, true
		}
	}
	return 0, false
}

// Cut answers the words of l from the place from on, ahead of the place to.
func Cut(l []uint32, from, to int) ([]uint32, bool) {
	// Go itself would cut up to the capacity: what stands behind the length is none of l's words.
	if from < 0 || from > to || to > len(l) {
		return nil, false
	}
	// Made and copied, so that an empty answer doesn't point into l either.
	words := make([]uint32, to-from)
	copy(words, l[from:to])
	return words, true
}
