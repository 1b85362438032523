package door

import (
	"math/bits"
	"testing"

	"pantry/api"
	"pantry/mix"
	"pantry/testkeys"
)

// plain is the chapter's door with nothing packed: a bool for each bit.
type plain struct {
	seed int
	on   []bool
}

func newPlain(size, seed int) *plain { return &plain{seed, make([]bool, size)} }

// places are where a key's bits lie: the low bits of its word, and of its word turned up by 16, since a size is a power of two.
func (p *plain) places(key int) (int, int) {
	h := mix.Mix(p.seed, key)
	low := uint64(len(p.on) - 1)
	return int(h & low), int(bits.RotateLeft64(h, 16) & low)
}

func (p *plain) has(key int) bool {
	a, b := p.places(key)
	return p.on[a] && p.on[b]
}

func (p *plain) put(key int) bool {
	was := p.has(key)
	a, b := p.places(key)
	p.on[a], p.on[b] = true, true
	return was
}

func (p *plain) ones() int {
	n := 0
	for _, on := range p.on {
		if on {
			n++
		}
	}
	return n
}

// same holds a door of at most 2^16 bits against a plain one, bit by bit: a key of one bit is there if that bit is on.
func same(t *testing.T, what string, x *Door, p *plain) {
	t.Helper()
	if x.Size() != len(p.on) || x.Ones() != p.ones() {
		t.Fatalf("%s: %d of %d bits, want %d of %d", what, x.Ones(), x.Size(), p.ones(), len(p.on))
	}
	for at, on := range p.on {
		if x.Has(testkeys.OfBits(p.seed, at, at)) != on {
			t.Fatalf("%s: bit %d is %v, want %v", what, at, !on, on)
		}
	}
}

// P4.1: widths at, beside and beyond both ends, powers of two and such as are none.
func TestNew(t *testing.T) {
	for _, c := range []struct{ width, size int }{
		{10, 128},
		{api.MinInt, 128}, {api.MinInt + 1, 128}, {-1 << 16, 128}, {-16, 128}, {-1, 128}, {0, 128}, {1, 128}, {2, 128}, {8, 128}, {15, 128}, {16, 128},
		{17, 256}, {31, 256}, {32, 256}, {33, 512}, {100, 1024}, {128, 1024}, {129, 2048}, {1000, 8192}, {1024, 8192}, {1025, 1 << 14},
		{1<<15 - 1, 1 << 18}, {1 << 15, 1 << 18}, {1<<15 + 1, 1 << 19},
		{1<<16 - 1, 1 << 19}, {1 << 16, 1 << 19}, {1<<16 + 1, 1 << 19}, {1 << 17, 1 << 19}, {1 << 19, 1 << 19},
		{1 << 32, 1 << 19}, {1 << 62, 1 << 19}, {1<<62 + 1, 1 << 19}, {api.MaxInt, 1 << 19},
	} {
		for _, seed := range testkeys.Seeds() {
			x := New(c.width, seed)
			if x.Size() != c.size || x.Ones() != 0 {
				t.Errorf("New(%d, %d): %d of %d bits, want 0 of %d", c.width, seed, x.Ones(), x.Size(), c.size)
			}
			for i := range 40 {
				if x.Has(testkeys.At(i)) {
					t.Errorf("New(%d, %d) has key %d", c.width, seed, testkeys.At(i))
				}
			}
		}
	}
}

// P4.1: every bit of a new door is off, and every one can be on.
func TestEveryBit(t *testing.T) {
	for _, width := range []int{16, 32, 4096} {
		for _, seed := range testkeys.Seeds() {
			x, p := New(width, seed), newPlain(8*width, seed)
			same(t, "new", x, p)
			for at := range x.Size() {
				key := testkeys.OfBits(seed, at, at)
				if x.Put(key) || !x.Has(key) || x.Ones() != at+1 {
					t.Fatalf("width %d, seed %d: bit %d put on, %d on", width, seed, at, x.Ones())
				}
			}
			for i := range 100 {
				if !x.Has(testkeys.At(i)) || !x.Put(testkeys.At(i)) || x.Ones() != x.Size() {
					t.Fatalf("width %d, seed %d: all on, key %d is not there", width, seed, testkeys.At(i))
				}
			}
			x.Clear()
			same(t, "cleared", x, p)
		}
	}
}

// The chapter's example.
func TestExample(t *testing.T) {
	x := New(10, 1)
	if x.Put(5) {
		t.Error("the first Put(5) found it there")
	}
	if !x.Put(5) {
		t.Error("the second Put(5) did not find it")
	}
	if x.Size() != 128 {
		t.Errorf("size %d, want 128", x.Size())
	}
}

// P4.1, P4.2: where a key's bits are, reckoned by hand from chapter 1's words.
func TestPlaces(t *testing.T) {
	for _, c := range []struct{ width, seed, key, a, b int }{
		{10, 1, 5, 98, 49},
		{17, -3, -1, 233, 47},
		{1000, 0, 0, 0, 0},
		{1000, 0, 7, 7956, 4782},
		{100, api.MinInt, api.MaxInt, 379, 208},
	} {
		x := New(c.width, c.seed)
		p := newPlain(x.Size(), c.seed)
		p.on[c.a], p.on[c.b] = true, true
		x.Put(c.key)
		same(t, "its bits", x, p)
	}
}

// P4.1, P4.2: in the greatest door, too: words that are unlike in one bit of a place are told apart, others are not.
func TestPlacesOfTheGreatest(t *testing.T) {
	for _, c := range []struct{ seed, key, a, b int }{
		{api.MaxInt, api.MinInt, 376512, 13157},
		{1, 5, 393826, 136881},
	} {
		x, h := New(1<<16, c.seed), mix.Mix(c.seed, c.key)
		x.Put(c.key)
		// The top three bits of b are the low three of a there.
		if low := c.b & 0xFFFF; x.Ones() != 2 || !x.Has(testkeys.OfBits(c.seed, c.a, low)) {
			t.Errorf("key %d: %d bits, not at %d and %d", c.key, x.Ones(), c.a, c.b)
		}
		for _, other := range []uint64{h ^ 1, h ^ 1<<18, h ^ 1<<48, h ^ 1<<63} {
			if x.Has(mix.Back(c.seed, other)) {
				t.Errorf("key %d lets the word %x be there", c.key, other)
			}
		}
		for _, other := range []uint64{h ^ 1<<19, h ^ 1<<47, h ^ 0x5A5A5A<<20} {
			if !x.Has(mix.Back(c.seed, other)) {
				t.Errorf("key %d does not let the word %x be there", c.key, other)
			}
		}
	}
}

// P4.1 to P4.4: a door goes with the plain one, put by put, across Clears.
func TestAsThePlainOne(t *testing.T) {
	for _, width := range []int{16, 32, 128} {
		for _, seed := range testkeys.Seeds() {
			x, p := New(width, seed), newPlain(8*width, seed)
			for i := range 12 * width {
				key := testkeys.At(i)
				if x.Has(key) != p.has(key) || x.Has(i) != p.has(i) || x.Has(-i) != p.has(-i) {
					t.Fatalf("width %d, seed %d, put %d: Has is wrong ahead of it", width, seed, i)
				}
				if was := x.Put(key); was != p.put(key) {
					t.Fatalf("width %d, seed %d: put %d answers %v", width, seed, i, was)
				}
				same(t, "as it goes", x, p)
				if i%(5*width) == 5*width-1 {
					x.Clear()
					p = newPlain(8*width, seed)
					same(t, "cleared", x, p)
				}
			}
		}
	}
}

// P4.2, P4.4: a key whose two bits are one puts one bit on, and is there by it alone.
func TestKeyOfOneBit(t *testing.T) {
	for _, c := range []struct{ seed, key int }{{0, 0}, {1, 212}, {1, 553}, {1, 1978}, {7, testkeys.OfBits(7, 0, 0)}, {-7, testkeys.OfBits(-7, 127, 127)}, {2, testkeys.OfBits(2, 63, 63)}, {2, testkeys.OfBits(2, 64, 64)}} {
		x, p := New(16, c.seed), newPlain(128, c.seed)
		if x.Has(c.key) || x.Put(c.key) || x.Ones() != 1 {
			t.Errorf("seed %d: Put(%d) lets %d bits be on, want 1", c.seed, c.key, x.Ones())
		}
		p.put(c.key)
		same(t, "one bit", x, p)
		if !x.Has(c.key) || !x.Put(c.key) || x.Ones() != 1 {
			t.Errorf("seed %d: key %d is not there, or twice: %d bits", c.seed, c.key, x.Ones())
		}
		same(t, "one bit again", x, p)
	}
}

// P4.2, P4.4: so it is in the greatest door; these keys were found by trying.
func TestKeyOfOneBitOfTheGreatest(t *testing.T) {
	for _, key := range []int{532831, 1209495} {
		x := New(1<<16, 1)
		if x.Put(key) || x.Ones() != 1 || !x.Has(key) || !x.Put(key) || x.Ones() != 1 {
			t.Errorf("key %d has %d bits, want 1", key, x.Ones())
		}
	}
}

// P4.2, P4.3: one bit on and the other off is not there, whichever it is; its Put puts the other on.
func TestHalfThere(t *testing.T) {
	for _, at := range [][2]int{{3, 90}, {90, 3}, {0, 127}, {127, 0}, {63, 64}, {64, 63}, {5, 6}, {5, 69}} {
		a, b := at[0], at[1]
		key := testkeys.OfBits(4, a, b)
		for _, only := range at {
			x, p := New(16, 4), newPlain(128, 4)
			x.Put(testkeys.OfBits(4, only, only))
			if x.Has(key) || x.Put(key) {
				t.Errorf("bits %d and %d, %d on: it is there", a, b, only)
			}
			p.put(key)
			if x.Ones() != 2 || !x.Has(key) {
				t.Errorf("bits %d and %d, %d on ahead: %d on behind its Put", a, b, only, x.Ones())
			}
			same(t, "put", x, p)
		}
	}
}

// P4.2 to P4.4: a key whose bits others have put on is there, and its Put changes nothing.
func TestPutOnByOthers(t *testing.T) {
	for _, others := range [][][2]int{{{3, 3}, {90, 90}}, {{3, 50}, {50, 90}}, {{90, 3}}, {{3, 90}}, {{90, 1}, {1, 3}}} {
		x, p := New(16, 4), newPlain(128, 4)
		for _, o := range others {
			x.Put(testkeys.OfBits(4, o[0], o[1]))
			p.put(testkeys.OfBits(4, o[0], o[1]))
		}
		key := testkeys.OfBits(4, 3, 90)
		if !x.Has(key) {
			t.Errorf("others put on %v: bits 3 and 90 are not there", others)
		}
		if ones := x.Ones(); !x.Put(key) || x.Ones() != ones {
			t.Errorf("others put on %v: Put finds it not there, or %d bits become %d", others, ones, x.Ones())
		}
		same(t, "put", x, p)
	}
}

// P4.2, P4.3: behind Clear nothing is there, Puts find nothing, and the size stays.
func TestClear(t *testing.T) {
	for _, width := range []int{api.MinInt, 16, 100, 1 << 16} {
		x := New(width, 3)
		size := x.Size()
		x.Clear()
		for turn := range 3 {
			if x.Ones() != 0 || x.Size() != size {
				t.Fatalf("width %d, turn %d: %d of %d bits", width, turn, x.Ones(), x.Size())
			}
			for i := range 200 {
				if x.Has(i) {
					t.Fatalf("width %d, turn %d: has %d", width, turn, i)
				}
			}
			if x.Put(7) || !x.Has(7) || !x.Put(7) {
				t.Fatalf("width %d, turn %d: Put(7) behind Clear", width, turn)
			}
			for i := range 200 {
				x.Put(i)
			}
			x.Clear()
		}
	}
}

// P4.3: what was put is there, put by put, until Clear, and not behind it.
func TestPutIsThere(t *testing.T) {
	for _, width := range []int{1, 40, 1 << 16} {
		for _, seed := range testkeys.Seeds() {
			x := New(width, seed)
			for i := range 300 {
				x.Put(testkeys.At(i))
				for j := range i + 1 {
					if !x.Has(testkeys.At(j)) {
						t.Fatalf("width %d, seed %d: %d was put, and is not there", width, seed, testkeys.At(j))
					}
				}
			}
			x.Clear()
			for i := range 300 {
				if x.Has(testkeys.At(i)) {
					t.Fatalf("width %d, seed %d: %d is there behind Clear", width, seed, testkeys.At(i))
				}
			}
		}
	}
}

// P4.4: a Put of a key that was there puts no bit on, one of another key one or two, of a wide door mostly two.
func TestHowManyMore(t *testing.T) {
	for _, width := range []int{16, 64, 1 << 16} {
		for _, seed := range testkeys.Seeds() {
			x, by := New(width, seed), [3]int{}
			for i := range 20 * width {
				ones := x.Ones()
				was := x.Put(testkeys.At(i))
				more := x.Ones() - ones
				if more < 0 || more > api.DoorWays || was != (more == 0) {
					t.Fatalf("width %d, seed %d: Put answers %v, %d bits more", width, seed, was, more)
				}
				by[more]++
				if i == 3000 {
					break
				}
			}
			if by[0] == 0 || by[1] == 0 && width < 1<<16 || by[2] == 0 {
				t.Errorf("width %d, seed %d: puts by how many more: %v", width, seed, by)
			}
		}
	}
}

// P4.2: what asks only changes nothing.
func TestAskingChangesNothing(t *testing.T) {
	x, p := New(16, 9), newPlain(128, 9)
	for key := range 20 {
		x.Put(key)
		p.put(key)
	}
	for key := range 300 {
		x.Has(key)
		x.Has(-key)
		x.Ones()
		x.Size()
	}
	same(t, "asked", x, p)
}

// P4.1: doors share nothing, be their seeds and widths alike.
func TestDoorsAreApart(t *testing.T) {
	x, y, p := New(16, 1), New(16, 1), newPlain(128, 1)
	for key := range 30 {
		x.Put(key)
		p.put(key)
	}
	same(t, "the other door", y, newPlain(128, 1))
	y.Put(99)
	y.Clear()
	same(t, "the one door", x, p)
}

// P4.1: a key's bits hang on the seed.
func TestSeedsTellApart(t *testing.T) {
	x, y, unlike := New(1024, 1), New(1024, 2), 0
	for key := range 50 {
		x.Put(key)
		y.Put(key)
	}
	for key := 50; key < 20000; key++ {
		if x.Has(key) != y.Has(key) {
			unlike++
		}
	}
	if unlike == 0 {
		t.Error("doors of two seeds have the same keys")
	}
}
