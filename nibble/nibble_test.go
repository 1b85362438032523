package nibble

import (
	"testing"

	"pantry/api"
)

// none are the numbers of no counter: beside both ends, and those that a move by 4 i bits would take back into the word.
func none() []int {
	return []int{-1, -2, -15, -16, -17, 16, 17, 31, 32, 64, 1 << 31, 1 << 32, 1 << 60, 1<<60 + 1, 1 << 62, 1<<62 + 1, -1 << 60, -1 << 62, api.MinInt, api.MinInt + 1, api.MaxInt - 1, api.MaxInt}
}

// words are all zeros, all ones, every counter alike, each counter alone, each alone missing, and many others.
func words() []uint64 {
	l := []uint64{0, ^uint64(0), 0x0123456789ABCDEF, 0xFEDCBA9876543210, 0x2F, 0xF3, 1 << 63, 1<<63 - 1}
	for n := range uint64(16) {
		l = append(l, n*0x1111111111111111)
		for i := range 16 {
			l = append(l, n<<(4*i), ^(n << (4 * i)))
		}
	}
	w := uint64(1)
	for range 500 {
		// An odd factor, its bits mixed: no two of these words are alike.
		w *= 0x9E3779B97F4A7C15
		l = append(l, w)
	}
	return l
}

// digits are the counters by hexadecimal places: the chapter's words, by division alone.
func digits(w uint64) [16]int {
	var d [16]int
	for i := range d {
		d[i] = int(w % 16)
		w /= 16
	}
	return d
}

// packed is the word of digits.
func packed(d [16]int) uint64 {
	w := uint64(0)
	for i := 15; i >= 0; i-- {
		w = w*16 + uint64(d[i])
	}
	return w
}

// P2.1: each counter of each word, by Get and by All.
func TestGetAndAll(t *testing.T) {
	for _, w := range words() {
		want := digits(w)
		if got := All(w); got != want {
			t.Fatalf("All(%#x) = %v, want %v", w, got, want)
		}
		for i := range 16 {
			if got := Get(w, i); got != want[i] {
				t.Fatalf("Get(%#x, %d) = %d, want %d", w, i, got, want[i])
			}
		}
	}
}

// P2.1: the chapter's example, and both ends of a word.
func TestGetExamples(t *testing.T) {
	for _, c := range []struct {
		w    uint64
		i    int
		want int
	}{
		{0x2F, 1, 2},
		{0x2F, 0, 15},
		{0x2F, 2, 0},
		{0xE000000000000000, 15, 14},
		{0xF000000000000000, 15, 15},
		{0x1000000000000000, 15, 1},
		{0x0F00000000000000, 15, 0},
		{0x0F00000000000000, 14, 15},
		{0, 0, 0},
		{^uint64(0), 0, 15},
	} {
		if got := Get(c.w, c.i); got != c.want {
			t.Errorf("Get(%#x, %d) = %d, want %d", c.w, c.i, got, c.want)
		}
	}
	if got, want := All(0x2F), [16]int{15, 2}; got != want {
		t.Errorf("All(0x2F) = %v, want %v", got, want)
	}
}

// P2.1: what is no counter is 0.
func TestGetOfNone(t *testing.T) {
	for _, w := range words() {
		for _, i := range none() {
			if got := Get(w, i); got != 0 {
				t.Fatalf("Get(%#x, %d) = %d, want 0", w, i, got)
			}
		}
	}
}

// numbers are those that a counter can hold, and with them those beyond both ends.
func numbers() []int {
	l := []int{16, 17, 30, 31, 32, 255, 256, 1 << 32, 1 << 60, 1 << 62, api.MaxInt - 1, api.MaxInt, -1, -2, -15, -16, -17, -1 << 32, api.MinInt + 1, api.MinInt}
	for n := range 16 {
		l = append(l, n)
	}
	return l
}

func clamped(n int) int {
	if n < 0 {
		return 0
	}
	if n > 15 {
		return 15
	}
	return n
}

// P2.1, and P2.4: Set changes one counter alone, to the number or the end next to it.
func TestSet(t *testing.T) {
	for _, w := range words() {
		for i := range 16 {
			for _, n := range numbers() {
				want := digits(w)
				want[i] = clamped(n)
				if got := Set(w, i, n); got != packed(want) {
					t.Fatalf("Set(%#x, %d, %d) = %#x, want %#x", w, i, n, got, packed(want))
				}
			}
		}
	}
}

// P2.1: the ends of n, and both ends of the word.
func TestSetExamples(t *testing.T) {
	for _, c := range []struct {
		w    uint64
		i, n int
		want uint64
	}{
		{0, 0, 0, 0},
		{0, 0, 15, 15},
		{0, 0, 16, 15},
		{0x2F, 1, 16, 0xFF},
		{0x2F, 1, -1, 0x0F},
		{0x2F, 0, api.MinInt, 0x20},
		{0x2F, 0, api.MaxInt, 0x2F},
		{0x2F, 0, 7, 0x27},
		{0, 15, 14, 0xE000000000000000},
		{^uint64(0), 15, 0, 0x0FFFFFFFFFFFFFFF},
		{^uint64(0), 0, -8, 0xFFFFFFFFFFFFFFF0},
		{^uint64(0), 7, 5, 0xFFFFFFFF5FFFFFFF},
	} {
		if got := Set(c.w, c.i, c.n); got != c.want {
			t.Errorf("Set(%#x, %d, %d) = %#x, want %#x", c.w, c.i, c.n, got, c.want)
		}
	}
}

// P2.1: with no counter to set the word stays.
func TestSetOfNone(t *testing.T) {
	for _, w := range words() {
		for _, i := range none() {
			for _, n := range numbers() {
				if got := Set(w, i, n); got != w {
					t.Fatalf("Set(%#x, %d, %d) = %#x, want %#x", w, i, n, got, w)
				}
			}
		}
	}
}

// P2.2, and P2.4: Inc adds one to one counter alone, and to none that is full.
func TestInc(t *testing.T) {
	for _, w := range words() {
		for i := range 16 {
			want, room := digits(w), digits(w)[i] < 15
			if room {
				want[i]++
			}
			if got, is := Inc(w, i); got != packed(want) || is != room {
				t.Fatalf("Inc(%#x, %d) = %#x, %v, want %#x, %v", w, i, got, is, packed(want), room)
			}
		}
	}
}

// P2.2: the chapter's example, counters of 0, 14 and 15, words of all zeros and all ones.
func TestIncExamples(t *testing.T) {
	for _, c := range []struct {
		w    uint64
		i    int
		want uint64
		is   bool
	}{
		{0x2F, 0, 0x2F, false},
		{0x2F, 1, 0x3F, true},
		{0x2F, 2, 0x12F, true},
		{0, 0, 1, true},
		{0, 15, 1 << 60, true},
		{0xE, 0, 0xF, true},
		{0xEF, 1, 0xFF, true},
		{0xE000000000000000, 15, 0xF000000000000000, true},
		{0xF000000000000000, 15, 0xF000000000000000, false},
		{^uint64(0), 0, ^uint64(0), false},
		{^uint64(0), 15, ^uint64(0), false},
		{0xFFFFFFFFFFFFFFF0, 0, 0xFFFFFFFFFFFFFFF1, true},
	} {
		if got, is := Inc(c.w, c.i); got != c.want || is != c.is {
			t.Errorf("Inc(%#x, %d) = %#x, %v, want %#x, %v", c.w, c.i, got, is, c.want, c.is)
		}
	}
}

// P2.2: with no counter to raise the word stays, and the answer is false.
func TestIncOfNone(t *testing.T) {
	for _, w := range words() {
		for _, i := range none() {
			if got, is := Inc(w, i); got != w || is {
				t.Fatalf("Inc(%#x, %d) = %#x, %v, want %#x, false", w, i, got, is, w)
			}
		}
	}
}

// P2.2: a counter takes fifteen more and then no other.
func TestIncTillFull(t *testing.T) {
	for i := range 16 {
		w, is := uint64(0), false
		for n := range 15 {
			if w, is = Inc(w, i); !is || Get(w, i) != n+1 || Sum(w) != n+1 {
				t.Fatalf("the counter %d raised %d times: %#x, %v", i, n+1, w, is)
			}
		}
		if full, is := Inc(w, i); is || full != w {
			t.Fatalf("the counter %d, full, raised: %#x, %v", i, full, is)
		}
	}
}

// P2.3: each counter's half, the sum, and how many are odd.
func TestHalveSumOdd(t *testing.T) {
	for _, w := range words() {
		d := digits(w)
		halves, sum, odd := d, 0, 0
		for i, n := range d {
			halves[i] = n / 2
			sum += n
			if n == 1 || n == 3 || n == 5 || n == 7 || n == 9 || n == 11 || n == 13 || n == 15 {
				odd++
			}
		}
		if got := Halve(w); got != packed(halves) {
			t.Fatalf("Halve(%#x) = %#x, want %#x", w, got, packed(halves))
		}
		if got := Sum(w); got != sum {
			t.Fatalf("Sum(%#x) = %d, want %d", w, got, sum)
		}
		if got := Odd(w); got != odd {
			t.Fatalf("Odd(%#x) = %d, want %d", w, got, odd)
		}
	}
}

// P2.3: the chapter's example, odd counters beside others, and words of all zeros and all ones.
func TestHalveSumOddExamples(t *testing.T) {
	for _, c := range []struct {
		w, half  uint64
		sum, odd int
	}{
		{0x2F, 0x17, 17, 1},
		{0, 0, 0, 0},
		{^uint64(0), 0x7777777777777777, 240, 16},
		{0x1111111111111111, 0, 16, 16},
		{0xEEEEEEEEEEEEEEEE, 0x7777777777777777, 224, 0},
		{0x10, 0, 1, 1}, // its odd bit is not to fall into the counter below
		{0x1000000000000000, 0, 1, 1},
		{0xF000000000000000, 0x7000000000000000, 15, 1},
		{0x0123456789ABCDEF, 0x0011223344556677, 120, 8},
	} {
		if half, sum, odd := Halve(c.w), Sum(c.w), Odd(c.w); half != c.half || sum != c.sum || odd != c.odd {
			t.Errorf("%#x: half %#x, sum %d, odd %d, want %#x, %d, %d", c.w, half, sum, odd, c.half, c.sum, c.odd)
		}
	}
}

// P2.4: what Inc and Set leave alone, asked by Get.
func TestOtherCountersStay(t *testing.T) {
	for _, w := range words() {
		for i := range 16 {
			raised, _ := Inc(w, i)
			for _, after := range []uint64{raised, Set(w, i, 0), Set(w, i, 9), Set(w, i, 15), Set(w, i, 1000), Set(w, i, -1000)} {
				for other := range 16 {
					if other != i && Get(after, other) != Get(w, other) {
						t.Fatalf("%#x, changed at %d, is %#x: the counter %d changed too", w, i, after, other)
					}
				}
			}
		}
	}
}

// P2.4: the sum behind Halve, over and over till nothing is left.
func TestSumBehindHalve(t *testing.T) {
	for _, w := range words() {
		for turn := range 4 {
			half := Halve(w)
			if got, want := 2*Sum(half), Sum(w)-Odd(w); got != want {
				t.Fatalf("twice the sum behind Halve(%#x) = %d, want %d (turn %d)", w, got, want, turn)
			}
			w = half
		}
		if w != 0 {
			t.Fatalf("halved four times, %#x is left", w)
		}
	}
}
