// Package mix is layer 1: keys made alike to chance: see shared/doc/01-mix.md.
package mix

import "math/bits"

// What Mix multiplies by. All of them are odd, so that each product can be undone.
const (
	seedFactor   = 0x9E3779B97F4A7C15
	firstFactor  = 0xBF58476D1CE4E5B9
	secondFactor = 0x94D049BB133111EB
)

// What undoes the factors: times its factor each is 1, going round at 2^64.
const (
	undoFirst  = 0x96DE1B173F119089
	undoSecond = 0x319642B2D24D8EC3
)

// How far Mix moves a word down, in its order.
const (
	firstMove  = 30
	secondMove = 27
	thirdMove  = 31
)

const (
	wordBits = 64
	rowBits  = 16 // rows of one word lie that far apart
	intTwos  = 62 // 2^62 is the greatest power of two that is an int
)

// Mix makes a word of a key; with one seed it is a bijection, which Back undoes.
func Mix(seed, key int) uint64 {
	x := uint64(key) ^ seedWord(seed)
	x = fold(x, firstMove) * firstFactor
	x = fold(x, secondMove) * secondFactor
	return fold(x, thirdMove)
}

// Back is the key whose Mix with that seed is h: Mix's steps undone, the last one first.
func Back(seed int, h uint64) int {
	x := unfold(h, thirdMove) * undoSecond
	x = unfold(x, secondMove) * undoFirst
	x = unfold(x, firstMove)
	return int(x ^ seedWord(seed))
}

// Turn turns the bits of h up by so many places; places below 0 turn them down.
func Turn(h uint64, by int) uint64 {
	// The low six bits are by modulo 64 also where by is below 0.
	return bits.RotateLeft64(h, by&(wordBits-1))
}

// Index is the place of h in a row of that size; 0 if the row has no place.
func Index(h uint64, row, size int) int {
	if size < 1 {
		return 0
	}
	return int(Turn(h, rowBits*row) % uint64(size))
}

// Ceil is the least power of two from least to most that is at least n, or most if none of them is; 0 if least and most are no such ends.
func Ceil(n, least, most int) int {
	if !isPower(least) || !isPower(most) || least > most {
		return 0
	}
	p := least
	for range intTwos {
		// Asked ahead of doubling: twice the greatest power would go round.
		if p >= n || p == most {
			break
		}
		p *= 2
	}
	return p
}

func seedWord(seed int) uint64 { return uint64(seed) * seedFactor }

func fold(x uint64, by uint) uint64 { return x ^ x>>by }

// unfold undoes fold: the top bits of x are right as they stand, and each turn makes as many more of them right as by says.
func unfold(x uint64, by uint) uint64 {
	y := x
	for range wordBits / by {
		y = x ^ y>>by
	}
	return y
}

// isPower refuses what is below 1 first: MinInt has one bit on, too.
func isPower(n int) bool { return n >= 1 && n&(n-1) == 0 }
