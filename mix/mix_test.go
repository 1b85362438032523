package mix

import (
	"math/big"
	"testing"

	"pantry/api"
)

// edges are the numbers at which signs, halves and ends change.
func edges() []int {
	l := []int{api.MinInt, api.MinInt + 1, -1 << 62, -1 << 32, -65, -64, -63, -2, -1, 0, 1, 2, 3, 15, 16, 17, 63, 64, 65, 1 << 16, 1<<31 - 1, 1 << 31, 1 << 32, 1<<62 - 1, 1 << 62, 1<<62 + 1, api.MaxInt - 1, api.MaxInt}
	return append(l, 0x0123456789ABCDEF, -0x0123456789ABCDEF)
}

// words are those of edges, and each bit alone, and each bit missing.
func words() []uint64 {
	var l []uint64
	for _, n := range edges() {
		l = append(l, uint64(n))
	}
	for i := range 64 {
		l = append(l, 1<<i, ^uint64(1<<i))
	}
	return l
}

// bigWord is what the document says of ints: one below 0 is the word that is 2^64 more.
func bigWord(n int) *big.Int {
	b := big.NewInt(int64(n))
	if n < 0 {
		b.Add(b, new(big.Int).Lsh(big.NewInt(1), 64))
	}
	return b
}

func bigHex(s string) *big.Int {
	b, _ := new(big.Int).SetString(s, 16)
	return b
}

func bigProduct(a, b *big.Int) *big.Int {
	p := new(big.Int).Mul(a, b)
	return p.Mod(p, new(big.Int).Lsh(big.NewInt(1), 64))
}

func bigFold(x *big.Int, by uint) *big.Int {
	return new(big.Int).Xor(x, new(big.Int).Rsh(x, by))
}

// bigMix is P1.1 word for word, in numbers that have no end.
func bigMix(seed, key int) uint64 {
	x := new(big.Int).Xor(bigWord(key), bigProduct(bigWord(seed), bigHex("9E3779B97F4A7C15")))
	x = bigProduct(bigFold(x, 30), bigHex("BF58476D1CE4E5B9"))
	x = bigProduct(bigFold(x, 27), bigHex("94D049BB133111EB"))
	return bigFold(x, 31).Uint64()
}

// P1.1: the well-known words of this mixer, that of a seed and the key 0 being its seed-th.
func TestMixKnownWords(t *testing.T) {
	known := []uint64{0, 0xE220A8397B1DCDAF, 0x6E789E6AA1B965F4, 0x06C45D188009454F, 0xF88BB8A8724C81EC, 0x1B39896A51A8749B}
	for seed, want := range known {
		if got := Mix(seed, 0); got != want {
			t.Errorf("Mix(%d, 0) = %#x, want %#x", seed, got, want)
		}
	}
}

// P1.1: at all edges, below 0 and where products go round, as the document's numbers say.
func TestMixAsNumbersSay(t *testing.T) {
	for _, seed := range edges() {
		for _, key := range edges() {
			if got, want := Mix(seed, key), bigMix(seed, key); got != want {
				t.Errorf("Mix(%d, %d) = %#x, want %#x", seed, key, got, want)
			}
		}
	}
}

// P1.1: the key is no part of the product: seeds and keys do not change places.
func TestMixSeedAndKeyAreUnlike(t *testing.T) {
	if Mix(1, 2) == Mix(2, 1) || Mix(0, 1) == Mix(1, 0) {
		t.Error("seed and key changed places, and the word did not change")
	}
}

// turnedOnce puts the top bit below all others.
func turnedOnce(h uint64) uint64 {
	top := h / (1 << 63)
	return h%(1<<63)*2 + top
}

// P1.2: each number of places from 0 to 63, with whole rounds more and less.
func TestTurnByPlaces(t *testing.T) {
	for _, h := range words() {
		want := h
		for by := range 64 {
			for _, round := range []int{0, 64, 128, -64, -128, 1 << 32, -1 << 32, 1 << 62, api.MinInt} {
				if got := Turn(h, round+by); got != want {
					t.Fatalf("Turn(%#x, %d) = %#x, want %#x", h, round+by, got, want)
				}
			}
			want = turnedOnce(want)
		}
	}
}

// P1.2: the chapter's example, turns by 64 and more, and below 0.
func TestTurnExamples(t *testing.T) {
	for _, c := range []struct {
		h    uint64
		by   int
		want uint64
	}{
		{1, 65, 2},
		{1, -1, 1 << 63},
		{1, 0, 1},
		{1, 63, 1 << 63},
		{1, 64, 1},
		{1 << 63, 1, 1},
		{1, -63, 2},
		{1, api.MaxInt, 1 << 63},
		{1, api.MinInt, 1},
		{1, api.MinInt + 1, 2},
		{0xF000000000000001, 4, 0x1F},
	} {
		if got := Turn(c.h, c.by); got != c.want {
			t.Errorf("Turn(%#x, %d) = %#x, want %#x", c.h, c.by, got, c.want)
		}
	}
}

// P1.2: the chapter's example, and rows whose 16-fold goes round.
func TestIndexExamples(t *testing.T) {
	for _, c := range []struct {
		h         uint64
		row, size int
		want      int
	}{
		{7, 0, 4, 3},
		{7, 0, 1, 0},
		{7, 0, 5, 2},
		{1 << 48, 1, 16, 1},
		{1 << 32, 2, 16, 1},
		{1 << 16, 3, 16, 1},
		{1, 4, 16, 1},                         // 64 places
		{1 << 16, -1, 16, 1},                  // -16 places
		{1, 1 << 60, 16, 1},                   // 2^64 places go round to 0
		{1 << 48, 1<<60 + 1, 16, 1},           // and to 16
		{1 << 16, api.MaxInt, 16, 1},          // to -16
		{1, api.MinInt, 16, 1},                // to 0
		{^uint64(0), 0, api.MaxInt, 1},        // the word is taken as one from 0 on
		{1 << 63, 0, 3, 2},                    // 2^63 modulo 3
		{1<<63 - 2, 0, api.MaxInt, 1<<63 - 2}, // the greatest place that there is
	} {
		if got := Index(c.h, c.row, c.size); got != c.want {
			t.Errorf("Index(%#x, %d, %d) = %d, want %d", c.h, c.row, c.size, got, c.want)
		}
	}
}

// P1.2: sizes below 1.
func TestIndexOfNoSize(t *testing.T) {
	for _, h := range words() {
		for _, size := range []int{0, -1, -2, -16, api.MinInt, api.MinInt + 1} {
			if got := Index(h, 0, size); got != 0 {
				t.Errorf("Index(%#x, 0, %d) = %d, want 0", h, size, got)
			}
		}
	}
}

// P1.2: an Index is the Turn's rest, and so lies within its row.
func TestIndexIsTheTurnsRest(t *testing.T) {
	for _, h := range words() {
		for _, row := range edges() {
			for _, size := range []int{1, 2, 3, 10, 16, 1 << 16, 1 << 62, api.MaxInt} {
				by := new(big.Int).Mul(big.NewInt(int64(row)), big.NewInt(16))
				by.Mod(by, big.NewInt(64))
				rest := new(big.Int).SetUint64(Turn(h, int(by.Int64())))
				want := int(rest.Mod(rest, big.NewInt(int64(size))).Int64())
				if got := Index(h, row, size); got != want || got < 0 || got >= size {
					t.Fatalf("Index(%#x, %d, %d) = %d, want %d", h, row, size, got, want)
				}
			}
		}
	}
}

// P1.3: the chapter's example, and both ends of ints.
func TestCeilExamples(t *testing.T) {
	for _, c := range []struct{ n, least, most, want int }{
		{17, 16, 64, 32},
		{16, 16, 64, 16},
		{15, 16, 64, 16},
		{33, 16, 64, 64},
		{64, 16, 64, 64},
		{65, 16, 64, 64},
		{0, 1, 8, 1},
		{-5, 1, 8, 1},
		{api.MinInt, 1, 8, 1},
		{api.MaxInt, 1, 8, 8},
		{5, 8, 8, 8},
		{9, 8, 8, 8},
		{1 << 61, 1, 1 << 62, 1 << 61},
		{1<<61 + 1, 1, 1 << 62, 1 << 62},
		{1 << 62, 1, 1 << 62, 1 << 62},
		{1<<62 + 1, 1, 1 << 62, 1 << 62},
		{api.MaxInt, 1, 1 << 62, 1 << 62},
		{api.MaxInt, 1 << 62, 1 << 62, 1 << 62},
	} {
		if got := Ceil(c.n, c.least, c.most); got != c.want {
			t.Errorf("Ceil(%d, %d, %d) = %d, want %d", c.n, c.least, c.most, got, c.want)
		}
	}
}

// P1.3: least and most that are no powers of two, or the wrong way round.
func TestCeilOfWrongEnds(t *testing.T) {
	for _, c := range []struct{ n, least, most int }{
		{5, 3, 8},
		{5, 4, 9},
		{5, 8, 4}, // the wrong way round
		{5, 2, 1},
		{5, 0, 8},
		{5, 1, 0},
		{0, 0, 0},
		{5, -1, 8},
		{5, -2, -1},
		{5, -4, 8},
		{5, api.MinInt, 8},
		{5, api.MinInt, api.MinInt},
		{5, 1, api.MinInt},
		{5, 1, api.MaxInt},
		{5, api.MaxInt, api.MaxInt},
		{5, 1, 1<<62 + 1},
		{5, 1<<62 + 1, 1 << 62},
	} {
		if got := Ceil(c.n, c.least, c.most); got != 0 {
			t.Errorf("Ceil(%d, %d, %d) = %d, want 0", c.n, c.least, c.most, got)
		}
	}
}

// isTwos asks each power of two that an int can be.
func isTwos(n int) bool {
	for i := range 63 {
		if n == 1<<i {
			return true
		}
	}
	return false
}

// seekCeil is P1.3 word for word: it goes through all powers, falling.
func seekCeil(n, least, most int) int {
	if !isTwos(least) || !isTwos(most) || least > most {
		return 0
	}
	best := most
	for p := most; p >= least && p >= n && p > 0; p /= 2 {
		best = p
	}
	return best
}

// P1.3: all small arguments, right and wrong.
func TestCeilOfSmallNumbers(t *testing.T) {
	for least := -5; least <= 36; least++ {
		for most := -5; most <= 36; most++ {
			for n := -5; n <= 70; n++ {
				if got, want := Ceil(n, least, most), seekCeil(n, least, most); got != want {
					t.Fatalf("Ceil(%d, %d, %d) = %d, want %d", n, least, most, got, want)
				}
			}
		}
	}
}

// P1.3: all powers, and the numbers beside them.
func TestCeilOfAllPowers(t *testing.T) {
	for i := range 63 {
		for j := range 63 {
			for k := range 63 {
				for _, n := range []int{1<<k - 1, 1 << k, 1<<k + 1, -1 << k} {
					if got, want := Ceil(n, 1<<i, 1<<j), seekCeil(n, 1<<i, 1<<j); got != want {
						t.Fatalf("Ceil(%d, 2^%d, 2^%d) = %d, want %d", n, i, j, got, want)
					}
				}
			}
		}
	}
}

// P1.4, and P1.5: no two keys have one word, since Back finds each one's own.
func TestBackFindsTheKey(t *testing.T) {
	keys := edges()
	for key := -2000; key <= 2000; key++ {
		keys = append(keys, key)
	}
	for _, w := range words() {
		keys = append(keys, int(w))
	}
	for _, seed := range edges() {
		for _, key := range keys {
			if got := Back(seed, Mix(seed, key)); got != key {
				t.Fatalf("Back(%d, Mix(%d, %d)) = %d", seed, seed, key, got)
			}
		}
	}
}

// P1.4, and P1.5: each word is one key's.
func TestBackOfAnyWord(t *testing.T) {
	all := words()
	for h := range uint64(2000) {
		all = append(all, h)
	}
	for _, seed := range edges() {
		for _, h := range all {
			if got := Mix(seed, Back(seed, h)); got != h {
				t.Fatalf("Mix(%d, Back(%d, %#x)) = %#x", seed, seed, h, got)
			}
		}
	}
}

// P1.4: words whose keys are well known.
func TestBackKnownWords(t *testing.T) {
	for _, c := range []struct {
		seed int
		h    uint64
		want int
	}{
		{0, 0, 0},
		{1, 0xE220A8397B1DCDAF, 0},
		{2, 0x6E789E6AA1B965F4, 0},
		{0, 0xE220A8397B1DCDAF, -0x61C8864680B583EB}, // 9E3779B97F4A7C15 as an int
	} {
		if got := Back(c.seed, c.h); got != c.want {
			t.Errorf("Back(%d, %#x) = %d, want %d", c.seed, c.h, got, c.want)
		}
	}
}

// P1.5: unlike keys have unlike words, and unlike words unlike keys.
func TestUnlikeKeysUnlikeWords(t *testing.T) {
	for _, seed := range edges() {
		ofWord := map[uint64]int{}
		ofKey := map[int]uint64{}
		for n := -3000; n <= 3000; n++ {
			h := Mix(seed, n)
			if other, ok := ofWord[h]; ok {
				t.Fatalf("seed %d: keys %d and %d have the word %#x", seed, other, n, h)
			}
			ofWord[h] = n
			key := Back(seed, uint64(n))
			if other, ok := ofKey[key]; ok {
				t.Fatalf("seed %d: words %#x and %#x have the key %d", seed, other, uint64(n), key)
			}
			ofKey[key] = uint64(n)
		}
	}
}

// P1.6: all the way round, at once, in two turns, or place by place.
func TestTurnedAllTheWayRound(t *testing.T) {
	for _, h := range words() {
		for _, by := range []int{64, -64, 0, 128, 64 * 1000, -64 * 1000, 1 << 62, api.MinInt} {
			if got := Turn(h, by); got != h {
				t.Fatalf("Turn(%#x, %d) = %#x", h, by, got)
			}
		}
		for _, by := range edges() {
			if got := Turn(Turn(h, by), -by); got != h {
				t.Fatalf("%#x turned by %d and back is %#x", h, by, got)
			}
			if got := Turn(Turn(h, by), 64-by); got != h {
				t.Fatalf("%#x turned by %d and by the rest is %#x", h, by, got)
			}
		}
		got := h
		for range 64 {
			got = Turn(got, 1)
		}
		if got != h {
			t.Fatalf("%#x turned 64 times is %#x", h, got)
		}
	}
}

// P1.5: what undoes a factor is its inverse; without it Back finds no key.
func TestFactorsAreUndone(t *testing.T) {
	first, second := uint64(firstFactor), uint64(secondFactor)
	if first*undoFirst != 1 || second*undoSecond != 1 {
		t.Error("a factor times what undoes it is not 1")
	}
}
