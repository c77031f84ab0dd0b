// Package mask reckons with labels: sets of the numbers 0 to 63, as bits. See the document's chapter 1.
package mask

import "math/bits"

// size is how many numbers there are: one a bit of a set.
const size = 64

// Of tells the set of ids; those that aren't 0 to 63 are passed over.
func Of(ids ...int) uint64 {
	var m uint64
	for _, id := range ids {
		m |= bit(id)
	}
	return m
}

// Join tells what is in one of ms: nothing of none.
func Join(ms ...uint64) uint64 {
	var all uint64
	for _, m := range ms {
		all |= m
	}
	return all
}

// Meet tells what is in all of ms: all 64 of none.
func Meet(ms ...uint64) uint64 {
	common := ^uint64(0)
	for _, m := range ms {
		common &= m
	}
	return common
}

// Below asks whether all of a is in b.
func Below(a, b uint64) bool { return a&^b == 0 }

// Has asks whether id is in m.
func Has(m uint64, id int) bool { return m&bit(id) != 0 }

// Ids tells what is in m, rising.
func Ids(m uint64) []int {
	if m == 0 {
		return nil
	}
	ids := make([]int, 0, Count(m))
	for rest := m; rest != 0; rest = withoutLeast(rest) {
		ids = append(ids, bits.TrailingZeros64(rest))
	}
	return ids
}

// Count tells how many are in m.
func Count(m uint64) int { return bits.OnesCount64(m) }

// Only tells the one that is in m, if it is one; -1, false, else.
func Only(m uint64) (int, bool) {
	if m == 0 || withoutLeast(m) != 0 {
		return -1, false
	}
	return bits.TrailingZeros64(m), true
}

// bit is asked for any int: a shift by a negative number would panic, so those outside are sorted out ahead of it.
func bit(id int) uint64 {
	if id < 0 || id >= size {
		return 0
	}
	return 1 << id
}

// withoutLeast leans on the borrow of m-1, which turns the least bit of m and those under it alone.
func withoutLeast(m uint64) uint64 { return m & (m - 1) }
