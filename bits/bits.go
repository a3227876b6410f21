// Package bits is layer 1: it reads and writes bit fields of 64-bit words.
package bits

const (
	width     = 64 // bits of a word
	mostOrder = 30 // the greatest order that Align takes
)

// within reports whether x is one of the numbers from least to most.
func within[T int | uint64](x, least, most T) bool {
	return least <= x && x <= most
}

// isField looks at many first: only then is width - many a bound for from
// that can't have wrapped round, as from + many could.
func isField(from, many int) bool {
	return within(many, 1, width) && within(from, 0, width-many)
}

// ones is the greatest number of many bits, for a many from 1 to 64. It is
// shifted down, as a 1 shifted up by 64 would be lost.
func ones(many int) uint64 {
	return ^uint64(0) >> (width - many)
}

// Get returns the number that the bits of a field of x form; false if there
// is no such field.
func Get(x uint64, from, many int) (uint64, bool) {
	if !isField(from, many) {
		return 0, false
	}
	return x >> from & ones(many), true
}

// Put returns x with the bits of a field replaced by those of bits; false if
// there is no such field, or bits does not fit in it.
func Put(x, bits uint64, from, many int) (uint64, bool) {
	if !isField(from, many) || !within(bits, 0, ones(many)) {
		return 0, false
	}
	return x&^(ones(many)<<from) | bits<<from, true
}

// Log returns the least k, from 0 on, for which 2^k is at least n; 0 if n is
// less than 1.
func Log(n int) int {
	if n < 1 {
		return 0
	}
	k := 0
	// The power is a uint64, as for the greatest int it has no place in an int.
	for uint64(1)<<k < uint64(n) {
		k++
	}
	return k
}

// Align returns the greatest multiple of 2^order that is at most n; n itself
// if n is negative, or order is not in the range 0 to 30.
func Align(n, order int) int {
	if n < 0 || !within(order, 0, mostOrder) {
		return n
	}
	return n - n%(1<<order)
}

// Count returns the number of bits of x that are 1.
func Count(x uint64) int {
	many := 0
	for place := range width {
		many += int(x >> place & 1)
	}
	return many
}
