// Package testkeys gives the seeds and keys that the layers' tests try; the program itself does not call it.
package testkeys

import (
	"pantry/api"
	"pantry/mix"
)

// Seeds are small ones, one beyond 32 bits, and both ends.
func Seeds() []int {
	return []int{0, 1, 2, -1, 1 << 40, api.MinInt, api.MaxInt}
}

// At is the key at a place from 0 on in a row of keys of which some come often, some once, some are below 0 and some at the ends.
func At(i int) int {
	switch i % 7 {
	case 0, 1:
		return i % 5
	case 2:
		return -i * i
	case 3:
		return i % 31
	case 4:
		return api.MaxInt - i%3
	case 5:
		return api.MinInt + i%3
	}
	return i << 20
}

// OfBits is a key whose bits are a and b, of a door of at most 2^16 bits: Mix undone of a word that has both places in it.
func OfBits(seed, a, b int) int { return mix.Back(seed, uint64(a)|uint64(b)<<48) }
