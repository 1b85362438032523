package sketch

import (
	"math/bits"
	"slices"
	"testing"

	"pantry/api"
	"pantry/mix"
	"pantry/testkeys"
)

// plain is the chapter's sketch with nothing packed: a number for each counter.
type plain struct {
	seed, width, samples int
	rows                 [4][]int
}

func newPlain(width, seed int) *plain {
	p := &plain{seed: seed, width: width}
	for i := range p.rows {
		p.rows[i] = make([]int, width)
	}
	return p
}

// places are where a key's counters lie: the word turned up by 16 bits a row, its low bits taken, since a width is a power of two.
func (p *plain) places(key int) [4]int {
	h := mix.Mix(p.seed, key)
	var l [4]int
	for i := range l {
		l[i] = int(bits.RotateLeft64(h, 16*i) & uint64(p.width-1))
	}
	return l
}

func (p *plain) count(key int) int {
	l := p.places(key)
	return min(p.rows[0][l[0]], p.rows[1][l[1]], p.rows[2][l[2]], p.rows[3][l[3]])
}

func (p *plain) add(key int) (bool, bool) {
	raised := false
	for i, at := range p.places(key) {
		if p.rows[i][at] != 15 {
			p.rows[i][at]++
			raised = true
		}
	}
	if !raised {
		return false, false
	}
	p.samples++
	if p.samples == 10*p.width {
		p.halve()
		return true, true
	}
	return true, false
}

func (p *plain) halve() {
	for _, row := range p.rows {
		for at := range row {
			row[at] >>= 1
		}
	}
	p.samples >>= 1
}

// same holds a sketch against a plain one: its width, samples, and every counter.
func same(t *testing.T, what string, x *Sketch, p *plain) {
	t.Helper()
	if x.Width() != p.width || x.Samples() != p.samples {
		t.Fatalf("%s: width %d, samples %d, want %d, %d", what, x.Width(), x.Samples(), p.width, p.samples)
	}
	for i, want := range p.rows {
		if got := x.Row(i); !slices.Equal(got, want) {
			t.Fatalf("%s: row %d is %v, want %v", what, i, got, want)
		}
	}
}

func rowsOf(x *Sketch) [4][]int {
	return [4][]int{x.Row(0), x.Row(1), x.Row(2), x.Row(3)}
}

func sameRows(a, b [4][]int) bool {
	return slices.EqualFunc(a[:], b[:], slices.Equal[[]int])
}

// P3.1: capacities at, beside and beyond both ends, powers of two and such as are none.
func TestNew(t *testing.T) {
	for _, c := range []struct{ capacity, width int }{
		{10, 16},
		{api.MinInt, 16}, {-1 << 16, 16}, {-16, 16}, {-1, 16}, {0, 16}, {1, 16}, {15, 16}, {16, 16},
		{17, 32}, {31, 32}, {32, 32}, {33, 64}, {100, 128}, {1000, 1024}, {1024, 1024}, {1025, 2048},
		{1<<15 - 1, 1 << 15}, {1 << 15, 1 << 15}, {1<<15 + 1, 1 << 16},
		{1<<16 - 1, 1 << 16}, {1 << 16, 1 << 16}, {1<<16 + 1, 1 << 16}, {1 << 17, 1 << 16},
		{1 << 32, 1 << 16}, {1 << 62, 1 << 16}, {api.MaxInt, 1 << 16},
	} {
		for _, seed := range testkeys.Seeds() {
			x := New(c.capacity, seed)
			if x.Count(7) != 0 {
				t.Fatalf("New(%d, %d) counts %d of a key", c.capacity, seed, x.Count(7))
			}
			same(t, "a new sketch", x, newPlain(c.width, seed))
		}
	}
}

// P3.1: a row that is none has no counters, also of a sketch that counts.
func TestRowOfNone(t *testing.T) {
	x := New(100, 1)
	for key := range 300 {
		x.Add(key)
	}
	for _, i := range []int{-1, -2, -4, -5, 4, 5, 8, 1 << 32, -1 << 32, 1 << 62, api.MinInt, api.MinInt + 1, api.MaxInt - 1, api.MaxInt} {
		if got := x.Row(i); len(got) != 0 {
			t.Errorf("Row(%d) = %v, want none", i, got)
		}
	}
}

// The chapter's example.
func TestExample(t *testing.T) {
	x := New(10, 1)
	if x.Width() != 16 {
		t.Errorf("width %d, want 16", x.Width())
	}
	for range 2 {
		if more, _ := x.Add(5); !more {
			t.Error("Add(5) found no room")
		}
	}
	if x.Count(5) != 2 {
		t.Errorf("Count(5) = %d, want 2", x.Count(5))
	}
}

// P3.1 and P3.2: where a key's counters are, reckoned by hand from chapter 1's words.
func TestPlaces(t *testing.T) {
	for _, c := range []struct {
		capacity, seed, key int
		at                  [4]int
	}{
		{10, 1, 5, [4]int{2, 1, 9, 6}},
		{17, -3, -1, [4]int{9, 15, 12, 18}},
		{1000, 0, 0, [4]int{0, 0, 0, 0}},
		{1000, 0, 7, [4]int{788, 686, 35, 791}},
		{1 << 16, api.MaxInt, api.MinInt, [4]int{48832, 13157, 966, 47157}},
		{100, api.MinInt, api.MaxInt, [4]int{123, 80, 124, 75}},
	} {
		x := New(c.capacity, c.seed)
		x.Add(c.key)
		for i, at := range c.at {
			want := make([]int, x.Width())
			want[at] = 1
			if got := x.Row(i); !slices.Equal(got, want) {
				t.Errorf("key %d, seed %d: row %d has its counter at %d, want %d", c.key, c.seed, i, slices.Index(got, 1), at)
			}
		}
	}
}

// P3.1 to P3.4: a sketch goes with the plain one, add by add, across its halvings and others.
func TestAsThePlainOne(t *testing.T) {
	for _, width := range []int{16, 32, 128} {
		for _, seed := range testkeys.Seeds() {
			x, p, halvings := New(width, seed), newPlain(width, seed), 0
			for i := range 50 * width {
				key := testkeys.At(i)
				more, halved := x.Add(key)
				if m, h := p.add(key); more != m || halved != h {
					t.Fatalf("width %d, seed %d: add %d answers %v, %v, want %v, %v", width, seed, i, more, halved, m, h)
				}
				if halved {
					halvings++
				}
				if i%(23*width) == 22*width+1 {
					x.Halve()
					p.halve()
				}
				if x.Count(key) != p.count(key) || x.Count(i) != p.count(i) {
					t.Fatalf("width %d, seed %d, add %d: counts %d, %d, want %d, %d", width, seed, i, x.Count(key), x.Count(i), p.count(key), p.count(i))
				}
				if x.Samples() >= 10*width {
					t.Fatalf("width %d, seed %d, add %d: %d samples", width, seed, i, x.Samples())
				}
				same(t, "as it goes", x, p)
			}
			if halvings == 0 {
				t.Errorf("width %d, seed %d: never halved by an Add", width, seed)
			}
		}
	}
}

// P3.2: a key's counters at 14 take one more, at 15 none; then an Add changes nothing.
func TestAddTillFull(t *testing.T) {
	for _, capacity := range []int{1, 50, 1 << 16} {
		x := New(capacity, 3)
		for n := range 15 {
			if more, halved := x.Add(-9); !more || halved {
				t.Fatalf("capacity %d: add %d answers %v, %v", capacity, n+1, more, halved)
			}
			if x.Count(-9) != n+1 || x.Samples() != n+1 {
				t.Fatalf("capacity %d: added %d times, counts %d, samples %d", capacity, n+1, x.Count(-9), x.Samples())
			}
		}
		before := rowsOf(x)
		for range 3 {
			if more, halved := x.Add(-9); more || halved {
				t.Errorf("capacity %d: an add of a full key answers %v, %v", capacity, more, halved)
			}
			if x.Count(-9) != 15 || x.Samples() != 15 || !sameRows(rowsOf(x), before) {
				t.Errorf("capacity %d: an add of a full key changed something", capacity)
			}
		}
	}
}

// keySharing is a key that has that many counters in common with another.
func keySharing(p *plain, with, many int) int {
	for key := with + 1; ; key++ {
		shared, a, b := 0, p.places(key), p.places(with)
		for i := range a {
			if a[i] == b[i] {
				shared++
			}
		}
		if shared == many {
			return key
		}
	}
}

// P3.2: an Add raises those that are below 15 alone, and is a sample if only one is.
func TestAddOfPartlyFull(t *testing.T) {
	for many := range 4 {
		x, p := New(16, 1), newPlain(16, 1)
		for range 15 {
			x.Add(5)
			p.add(5)
		}
		other := keySharing(p, 5, many)
		for n := range 15 {
			if more, halved := x.Add(other); !more || halved {
				t.Errorf("%d shared: add %d answers %v, %v", many, n+1, more, halved)
			}
			p.add(other)
			if x.Count(other) != n+1 || x.Samples() != 16+n || x.Count(5) != 15 {
				t.Errorf("%d shared: added %d times, counts %d, samples %d", many, n+1, x.Count(other), x.Samples())
			}
			same(t, "partly full", x, p)
		}
		if more, _ := x.Add(other); more || x.Samples() != 30 {
			t.Errorf("%d shared: full, it still takes one more", many)
		}
	}
}

// P3.2: a key none of whose counters is below 15 is no sample, also if others filled them.
func TestAddOfFilledByOthers(t *testing.T) {
	x, p := New(16, 1), newPlain(16, 1)
	other := keySharing(p, 5, 4)
	for range 15 {
		x.Add(other)
	}
	if more, halved := x.Add(5); more || halved || x.Samples() != 15 || x.Count(5) != 15 {
		t.Errorf("Add(5) = %v, %v, samples %d, count %d", more, halved, x.Samples(), x.Count(5))
	}
}

// P3.2, P3.4: the Add that makes Samples times the width halves, its own sample among the rest, and no other does.
func TestAddThatHalves(t *testing.T) {
	for _, width := range []int{16, 32, 1 << 16} {
		x, p, key := New(width, 4), newPlain(width, 4), 0
		for _, start := range []int{0, 5 * width, 5 * width} {
			for n := start + 1; n < 10*width; n++ {
				// An Add that finds no room is passed over: it makes no sample.
				for more := false; !more; key++ {
					var halved bool
					if more, halved = x.Add(key); halved {
						t.Fatalf("width %d: halved at %d samples", width, n)
					}
					p.add(key)
				}
				if x.Samples() != n {
					t.Fatalf("width %d: %d samples, want %d", width, x.Samples(), n)
				}
			}
			same(t, "ahead of it", x, p)
			for more := false; !more; key++ {
				var halved bool
				if more, halved = x.Add(key); halved != more {
					t.Fatalf("width %d: the add that is to halve answers %v, %v", width, more, halved)
				}
				p.add(key)
			}
			if x.Samples() != 5*width {
				t.Fatalf("width %d: %d samples behind it, want %d", width, x.Samples(), 5*width)
			}
			same(t, "behind it", x, p)
		}
	}
}

// P3.2: halves of odd and of even counters and samples, down to 0.
func TestHalve(t *testing.T) {
	for adds, want := range [][5]int{{0}, {1, 0}, {2, 1, 0}, {3, 1, 0}, {4, 2, 1, 0}, {5, 2, 1, 0}, {6, 3, 1, 0}, {7, 3, 1, 0}, {8, 4, 2, 1, 0}, {9, 4, 2, 1, 0}, {10, 5, 2, 1, 0}, {11, 5, 2, 1, 0}, {12, 6, 3, 1, 0}, {13, 6, 3, 1, 0}, {14, 7, 3, 1, 0}, {15, 7, 3, 1, 0}} {
		x, p := New(40, 6), newPlain(64, 6)
		for range adds {
			x.Add(77)
			p.add(77)
		}
		for turn, n := range want {
			if x.Count(77) != n || x.Samples() != n {
				t.Errorf("added %d times, halved %d times: counts %d, samples %d, want %d", adds, turn, x.Count(77), x.Samples(), n)
			}
			same(t, "halved", x, p)
			x.Halve()
			p.halve()
		}
	}
}

// P3.2: an odd number of samples of many keys: their own half, not the sum of the counters'.
func TestHalveOddSamples(t *testing.T) {
	x := New(1024, 2)
	for key := range 101 {
		x.Add(key)
	}
	before := rowsOf(x)
	x.Halve()
	if x.Samples() != 50 {
		t.Errorf("the half of 101 samples is %d, want 50", x.Samples())
	}
	for i, row := range before {
		half := x.Row(i)
		for at, n := range row {
			if half[at] != n/2 {
				t.Errorf("row %d, counter %d: the half of %d is %d", i, at, n, half[at])
			}
		}
	}
}

// W6: a row that was answered is its asker's own, spare room too.
func TestRowIsNew(t *testing.T) {
	x := New(30, 1)
	for key := range 100 {
		x.Add(key)
	}
	want := rowsOf(x)
	kept := rowsOf(x)
	for i := range 4 {
		row, twin := x.Row(i), x.Row(i)
		row = row[:cap(row)]
		for at := range row {
			row[at] = 99
		}
		if !slices.Equal(twin, want[i]) || !sameRows(rowsOf(x), want) {
			t.Errorf("row %d: what was answered is shared", i)
		}
		_ = append(twin, 98)
		if !sameRows(rowsOf(x), want) {
			t.Errorf("row %d: its spare room is shared", i)
		}
	}
	for key := range 50 {
		x.Add(key)
	}
	x.Halve()
	if !sameRows(kept, want) {
		t.Error("what was answered changed with the sketch")
	}
}

// P3.1: sketches share nothing, be their seeds and widths alike.
func TestSketchesAreApart(t *testing.T) {
	x, y := New(16, 1), New(16, 1)
	for key := range 60 {
		x.Add(key)
	}
	same(t, "the other sketch", y, newPlain(16, 1))
	y.Add(3)
	y.Halve()
	p := newPlain(16, 1)
	for key := range 60 {
		p.add(key)
	}
	same(t, "the one sketch", x, p)
}

// P3.2: what asks only changes nothing.
func TestAskingChangesNothing(t *testing.T) {
	x, p := New(16, 9), newPlain(16, 9)
	for key := range 77 {
		x.Add(key)
		p.add(key)
	}
	for key := range 200 {
		x.Count(key)
		x.Count(-key)
		x.Width()
		x.Samples()
		x.Row(key - 100)
	}
	same(t, "asked", x, p)
}

// P3.3: without halving a key counts no less than it was added, up to 15, and no add makes any key count less.
func TestCountsNoLess(t *testing.T) {
	for _, width := range []int{16, 64, 4096} {
		for _, seed := range testkeys.Seeds() {
			x, added, last := New(width, seed), map[int]int{}, map[int]int{}
			for i := range 10*width - 1 {
				key := i * i % 23
				if i%3 == 0 {
					key = testkeys.At(i)
				}
				if _, halved := x.Add(key); halved {
					t.Fatal("halved ahead of its time")
				}
				added[key]++
				if n := x.Count(key); n < min(15, added[key]) || n <= min(14, last[key]) {
					t.Fatalf("width %d, seed %d: key %d, added %d times, counted %d, counts %d", width, seed, key, added[key], last[key], n)
				}
				if i%50 == 0 {
					for k, n := range added {
						if x.Count(k) < min(15, n) || x.Count(k) < last[k] {
							t.Fatalf("width %d, seed %d: key %d, added %d times, counted %d, counts %d", width, seed, k, n, last[k], x.Count(k))
						}
						last[k] = x.Count(k)
					}
				}
			}
		}
	}
}

// P3.3: others can make a key count more.
func TestOthersMakeItMore(t *testing.T) {
	x, p := New(16, 1), newPlain(16, 1)
	x.Add(5)
	x.Add(keySharing(p, 5, 4))
	if x.Count(5) != 2 {
		t.Errorf("Count(5) = %d, want 2", x.Count(5))
	}
	x.Add(keySharing(p, 5, 3))
	if x.Count(5) != 2 {
		t.Errorf("Count(5) = %d, want 2: one of its counters was left", x.Count(5))
	}
}

// P3.4: samples stay below Samples times the width, whatever comes.
func TestSamplesStayBelow(t *testing.T) {
	for _, capacity := range []int{api.MinInt, 16, 17, 500} {
		x := New(capacity, 8)
		for i := range 40 * x.Width() {
			x.Add(i)
			if x.Samples() < 0 || x.Samples() >= api.Samples*x.Width() {
				t.Fatalf("capacity %d: %d samples of width %d", capacity, x.Samples(), x.Width())
			}
		}
	}
}
