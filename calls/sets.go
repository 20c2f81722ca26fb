package calls

import (
	"iter"
	"math/bits"
)

// set is a set of numbers, a bit each.
type set []uint64

// emptySet has room for the numbers less than a count.
func emptySet(count int) set {
	return make(set, (count+63)/64)
}

func (s set) put(n int) { s[n/64] |= 1 << (n % 64) }

func (s set) drop(n int) { s[n/64] &^= 1 << (n % 64) }

func (s set) has(n int) bool { return s[n/64]&(1<<(n%64)) != 0 }

// add puts in all that another set has.
func (s set) add(other set) {
	for i, word := range other {
		s[i] |= word
	}
}

// size is how many numbers there are in a set.
func (s set) size() int {
	count := 0
	for _, word := range s {
		count += bits.OnesCount64(word)
	}
	return count
}

// all hands on a set's numbers, rising.
func (s set) all() iter.Seq[int] {
	return func(yield func(int) bool) {
		for i, word := range s {
			for ; word != 0; word &= word - 1 {
				if !yield(64*i + bits.TrailingZeros64(word)) {
					return
				}
			}
		}
	}
}
