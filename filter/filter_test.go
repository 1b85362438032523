package filter

import (
	"slices"
	"testing"

	"pantry/api"
	"pantry/door"
	"pantry/sketch"
	"pantry/testkeys"
)

// plain is the chapter's filter with its parts apart, each call written out in the chapter's words.
type plain struct {
	counts *sketch.Sketch
	once   *door.Door
	ages   int
}

func newPlain(width, seed int) *plain {
	return &plain{counts: sketch.New(width, seed), once: door.New(width, seed)}
}

func (p *plain) record(key int) {
	was := p.once.Has(key)
	p.once.Put(key)
	halved := false
	if was {
		_, halved = p.counts.Add(key)
	}
	if halved {
		p.once.Clear()
		p.ages++
	}
}

func (p *plain) often(key int) int {
	if p.once.Has(key) {
		return p.counts.Count(key) + 1
	}
	return p.counts.Count(key)
}

// same holds a filter against a plain one: what it tells of those keys and of others, its ages, and both parts.
func same(t *testing.T, what string, x *Filter, p *plain, keys ...int) {
	t.Helper()
	if x.Ages() != p.ages {
		t.Fatalf("%s: %d ages, want %d", what, x.Ages(), p.ages)
	}
	for i := range 40 {
		keys = append(keys, i, -i, testkeys.At(i))
	}
	for _, key := range keys {
		if x.Often(key) != p.often(key) {
			t.Fatalf("%s: Often(%d) = %d, want %d", what, key, x.Often(key), p.often(key))
		}
	}
	if x.Width() != p.counts.Width() || x.Samples() != p.counts.Samples() {
		t.Fatalf("%s: a sketch of %d samples, width %d, want %d, %d", what, x.Samples(), x.Width(), p.counts.Samples(), p.counts.Width())
	}
	if x.Size() != p.once.Size() || x.Ones() != p.once.Ones() {
		t.Fatalf("%s: a door of %d bits, %d on, want %d, %d", what, x.Size(), x.Ones(), p.once.Size(), p.once.Ones())
	}
	for i := range api.Rows {
		if !slices.Equal(x.Row(i), p.counts.Row(i)) {
			t.Fatalf("%s: the sketch's row %d is another", what, i)
		}
	}
}

// P5.1: capacities at, beside and beyond both ends, powers of two and such as are none.
func TestNew(t *testing.T) {
	for _, c := range []struct{ capacity, width int }{
		{10, 16},
		{api.MinInt, 16}, {-1 << 16, 16}, {-1, 16}, {0, 16}, {1, 16}, {15, 16}, {16, 16},
		{17, 32}, {31, 32}, {32, 32}, {33, 64}, {100, 128}, {1000, 1024}, {1024, 1024}, {1025, 2048},
		{1<<15 - 1, 1 << 15}, {1 << 15, 1 << 15}, {1<<15 + 1, 1 << 16},
		{1<<16 - 1, 1 << 16}, {1 << 16, 1 << 16}, {1<<16 + 1, 1 << 16}, {1 << 17, 1 << 16},
		{1 << 62, 1 << 16}, {api.MaxInt, 1 << 16},
	} {
		for _, seed := range testkeys.Seeds() {
			x := New(c.capacity, seed)
			if x.Width() != c.width || x.Size() != 8*c.width || x.Samples() != 0 || x.Ones() != 0 || x.Ages() != 0 {
				t.Errorf("New(%d, %d): width %d, %d bits, %d samples, %d on, %d ages", c.capacity, seed, x.Width(), x.Size(), x.Samples(), x.Ones(), x.Ages())
			}
			for i := range 40 {
				key := testkeys.At(i)
				if x.Often(key) != 0 || x.Better(key, i) || x.Better(i, key) {
					t.Errorf("New(%d, %d): Often(%d) = %d, or it is better than another", c.capacity, seed, key, x.Often(key))
				}
			}
		}
	}
}

// The chapter's example.
func TestExample(t *testing.T) {
	x := New(10, 1)
	for range 3 {
		x.Record(5)
	}
	if x.Often(5) != 3 {
		t.Errorf("Often(5) = %d, want 3", x.Often(5))
	}
	if x.Better(5, 5) {
		t.Error("5 is better than itself")
	}
}

// P5.1, P5.2: what many records come to, reckoned apart from this program from the words of chapters 1 to 5.
func TestReckoned(t *testing.T) {
	for _, c := range []struct {
		capacity, seed, keys, records, ages int
		often                               []int // of the keys from -9 on
	}{
		{10, 1, 100, 2000, 12, []int{9, 2, 0, 0, 0, 2, 1, 1, 0, 2}},
		{api.MinInt, -3, 31, 2000, 11, []int{16, 3, 7, 5, 7, 1, 5, 2, 6, 7}},
		{17, 0, 90, 3000, 10, []int{16, 7, 2, 2, 3, 0, 3, 0, 3, 3}},
		{100, 1 << 40, 350, 9000, 7, []int{16, 4, 3, 3, 4, 0, 4, 1, 2, 7}},
		{129, api.MinInt, 700, 20000, 8, []int{16, 5, 0, 0, 7, 0, 10, 0, 2, 3}},
		{1000, api.MaxInt, 3000, 60000, 6, []int{16, 7, 0, 3, 5, 2, 5, 3, 2, 1}},
		{1 << 15, 7, 100000, 800000, 2, []int{16, 5, 2, 0, 4, 0, 2, 0, 0, 2}},
	} {
		x := New(c.capacity, c.seed)
		for i := range c.records {
			x.Record(i%c.keys*(i%5) - 9)
		}
		if x.Ages() != c.ages {
			t.Errorf("capacity %d, seed %d: %d ages, want %d", c.capacity, c.seed, x.Ages(), c.ages)
		}
		for i, n := range c.often {
			if x.Often(i-9) != n {
				t.Errorf("capacity %d, seed %d: Often(%d) = %d, want %d", c.capacity, c.seed, i-9, x.Often(i-9), n)
			}
		}
	}
}

// P5.1 to P5.4: a filter goes with the plain one, record by record, across its ages.
func TestAsThePlainOne(t *testing.T) {
	for _, width := range []int{16, 32, 128} {
		for _, seed := range testkeys.Seeds() {
			x, p := New(width, seed), newPlain(width, seed)
			for i := range 80 * width {
				key := testkeys.At(i)
				if i%2 == 1 {
					key = i / 2 % (3 * width)
				}
				x.Record(key)
				p.record(key)
				same(t, "as it goes", x, p, key, key+1, i)
				if x.Better(key, i) != (p.often(key) > p.often(i)) || x.Better(i, key) != (p.often(i) > p.often(key)) {
					t.Fatalf("width %d, seed %d, record %d: which is better of %d and %d", width, seed, i, key, i)
				}
				if x.Often(key) > 16 {
					t.Fatalf("width %d, seed %d, record %d: Often(%d) = %d", width, seed, i, key, x.Often(key))
				}
			}
			if x.Ages() < 2 {
				t.Errorf("width %d, seed %d: %d ages", width, seed, x.Ages())
			}
		}
	}
}

// P5.2: a key's first Record is the door's alone; its second, and each behind it, the sketch counts.
func TestFirstAndSecond(t *testing.T) {
	for _, capacity := range []int{api.MinInt, 16, 100, 1 << 16} {
		for _, seed := range testkeys.Seeds() {
			for i := range 20 {
				x, key := New(capacity, seed), testkeys.At(i)
				x.Record(key)
				if x.Often(key) != 1 || x.Count(key) != 0 || x.Samples() != 0 || !x.Has(key) {
					t.Fatalf("capacity %d, seed %d: the first Record(%d): often %d, %d samples", capacity, seed, key, x.Often(key), x.Samples())
				}
				ones := x.Ones()
				for n := 2; n < 5; n++ {
					x.Record(key)
					if x.Often(key) != n || x.Count(key) != n-1 || x.Samples() != n-1 || x.Ones() != ones {
						t.Fatalf("capacity %d, seed %d: Record(%d) number %d: often %d, %d samples", capacity, seed, key, n, x.Often(key), x.Samples())
					}
				}
			}
		}
	}
}

// fill records keys from there on, each of them twice, until one sample is missing to the next age; it tells the key behind the last.
func fill(t *testing.T, x *Filter, from int) int {
	t.Helper()
	want := 10*x.Width() - 1
	return first(t, x, from, 1, func(key int) bool {
		for range 2 {
			if x.Samples() < want {
				x.Record(key)
			}
		}
		return x.Samples() == want
	}) + 1
}

// counted is a key, from there down, that the door has and whose next Record the sketch has room for.
func counted(t *testing.T, x *Filter, from int) int {
	t.Helper()
	return first(t, x, from, -1, func(key int) bool { return x.Has(key) && x.Count(key) < 15 })
}

// first is the first key, in steps from there on, of which that is so. A filter that is wrong may have none: the search ends.
func first(t *testing.T, x *Filter, from, step int, is func(key int) bool) int {
	t.Helper()
	for i := range 100 * x.Width() {
		if key := from + i*step; is(key) {
			return key
		}
	}
	t.Fatalf("width %d: no such key from %d on", x.Width(), from)
	return 0
}

// P5.2: the Record that halves the sketch clears the door and makes an age more; its own count is among what is halved.
func TestAge(t *testing.T) {
	for _, capacity := range []int{-1, 16, 17, api.MaxInt} {
		x, next := New(capacity, 4), 0
		for age := range 3 {
			from := next
			next = fill(t, x, from)
			once := first(t, x, next, 1, func(key int) bool { return !x.Has(key) })
			x.Record(once)
			if x.Ages() != age || x.Often(once) != x.Count(once)+1 {
				t.Fatalf("capacity %d: %d ages ahead of age %d, or a first Record is not there", capacity, x.Ages(), age+1)
			}
			key := counted(t, x, next)
			makes, leaves := x.Count(key)+1, x.Count(once)
			x.Record(key)
			if x.Ages() != age+1 || x.Ones() != 0 || x.Samples() != 5*x.Width() {
				t.Fatalf("capacity %d: %d ages, %d bits, %d samples behind age %d", capacity, x.Ages(), x.Ones(), x.Samples(), age+1)
			}
			if x.Often(key) != makes/2 {
				t.Errorf("capacity %d, age %d: often %d, want the half of %d", capacity, age+1, x.Often(key), makes)
			}
			// The key that made the age may have raised one of its counters.
			if n := x.Often(once); n != leaves/2 && n != (leaves+1)/2 {
				t.Errorf("capacity %d, age %d: a key that came once ahead of it: %d", capacity, age+1, n)
			}
			for k := from; k < next; k += 1 + x.Width()/50 {
				if x.Has(k) || x.Often(k) != x.Count(k) {
					t.Fatalf("capacity %d, age %d: the door still has %d", capacity, age+1, k)
				}
			}
		}
	}
}

// P5.2: behind an age a key's next Record is the door's alone again, and the one behind it the sketch's.
func TestBehindAnAge(t *testing.T) {
	x := New(16, 2)
	for range 16 {
		x.Record(500)
	}
	x.Record(counted(t, x, fill(t, x, 1000)))
	if x.Often(500) != 7 || x.Ages() != 1 {
		t.Errorf("of 16 an age leaves %d, want 7: the half of 15, and the door forgets", x.Often(500))
	}
	for n, want := range []int{8, 9, 10} {
		x.Record(500)
		if x.Often(500) != want || x.Samples() != 80+n || x.Ages() != 1 {
			t.Errorf("Record %d behind the age: often %d, %d samples, want %d, %d", n+1, x.Often(500), x.Samples(), want, 80+n)
		}
	}
}

// P5.2: a Record for which the sketch has no room makes no sample, so no age either.
func TestNoRoomNoAge(t *testing.T) {
	x := New(16, 1)
	for range 20 {
		x.Record(5)
	}
	fill(t, x, 1000)
	for range 50 {
		x.Record(5)
	}
	if x.Ages() != 0 || x.Samples() != 159 || x.Often(5) != 16 {
		t.Errorf("%d ages, %d samples, often %d, want 0, 159, 16", x.Ages(), x.Samples(), x.Often(5))
	}
}

// P5.2: a key that never came, but whose bits others put on, counts one; its first Record is counted.
func TestBitsOnByOthers(t *testing.T) {
	for _, others := range [][][2]int{{{3, 3}, {90, 90}}, {{3, 50}, {50, 90}}, {{90, 3}}, {{90, 1}, {1, 3}}} {
		x, p, key := New(16, 4), newPlain(16, 4), testkeys.OfBits(4, 3, 90)
		for i, o := range others {
			other := testkeys.OfBits(4, o[0], o[1])
			if x.Often(key) != 0 {
				t.Errorf("others %v: often %d at %d of them", others, x.Often(key), i)
			}
			x.Record(other)
			p.record(other)
		}
		if x.Often(key) != 1 || x.Samples() != 0 {
			t.Errorf("others %v: often %d, %d samples, want 1, 0", others, x.Often(key), x.Samples())
		}
		if absent := testkeys.OfBits(4, 3, 91); x.Often(absent) != 0 || !x.Better(key, absent) || x.Better(absent, key) {
			t.Errorf("others %v: one bit on of two counts %d", others, x.Often(absent))
		}
		x.Record(key)
		p.record(key)
		if x.Often(key) != 2 || x.Samples() != 1 {
			t.Errorf("others %v: often %d, %d samples behind its first Record, want 2, 1", others, x.Often(key), x.Samples())
		}
		same(t, "bits on by others", x, p, key)
	}
}

// P5.2: a key whose counters others raised, but whose bits are off, counts what the sketch does, and none more.
func TestCountersRaisedByOthers(t *testing.T) {
	x := New(16, 4)
	key := testkeys.OfBits(4, 3, 90)
	// The counters' places are the low bits of what the door's bits are.
	other := testkeys.OfBits(4, 3+16, 90+16)
	for n := range 20 {
		x.Record(other)
		if want := min(n, 15); x.Often(key) != want || x.Often(other) != want+1 {
			t.Errorf("recorded %d times: often %d and %d, want %d and %d", n+1, x.Often(key), x.Often(other), want, want+1)
		}
		if !x.Better(other, key) || x.Better(key, other) {
			t.Errorf("recorded %d times: which is better", n+1)
		}
	}
}

// P5.4: a key that comes n times with no age in between counts n at least, up to 16, whatever comes beside it, and from any age on.
func TestCountsNoLess(t *testing.T) {
	for _, capacity := range []int{-5, 16, 100, 1 << 16} {
		for _, seed := range testkeys.Seeds() {
			x, came, age := New(capacity, seed), map[int]int{}, 0
			for i := range min(100*x.Width(), 20000) {
				key := i * i % 23
				if i%3 == 0 {
					key = testkeys.At(i)
				}
				x.Record(key)
				if x.Ages() != age {
					age = x.Ages()
					clear(came)
					continue
				}
				came[key]++
				if n := x.Often(key); n < min(16, came[key]) || n > 16 {
					t.Fatalf("capacity %d, seed %d: key %d came %d times, counts %d", capacity, seed, key, came[key], n)
				}
				if i%50 == 0 {
					for k, n := range came {
						if x.Often(k) < min(16, n) || x.Often(k) > 16 {
							t.Fatalf("capacity %d, seed %d: key %d came %d times, counts %d", capacity, seed, k, n, x.Often(k))
						}
					}
				}
			}
		}
	}
}

// P5.4: a key alone counts just as often as it comes, to 16 and never above.
func TestUpToSixteen(t *testing.T) {
	for _, capacity := range []int{api.MinInt, 16, 50, api.MaxInt} {
		for _, key := range []int{0, 1, -1, 5, api.MinInt, api.MaxInt} {
			x := New(capacity, 3)
			for n := 1; n <= 400; n++ {
				x.Record(key)
				if x.Often(key) != min(n, 16) || x.Ages() != 0 {
					t.Fatalf("capacity %d: key %d came %d times, counts %d, %d ages", capacity, key, n, x.Often(key), x.Ages())
				}
			}
		}
	}
}

// P5.3: of keys that came from none to 20 times, in a filter wide enough to keep them apart, those that came more often are better.
func TestBetter(t *testing.T) {
	x := New(1<<16, 5)
	for key := range 21 {
		for range key {
			x.Record(key)
		}
	}
	for a := range 21 {
		for b := range 21 {
			if x.Better(a, b) != (min(a, 16) > min(b, 16)) {
				t.Errorf("came %d and %d times: Better = %v", a, b, x.Better(a, b))
			}
		}
	}
}

// P5.3, P5.5: of two that come as often none is better, be the times the door's or the sketch's.
func TestAsOften(t *testing.T) {
	x := New(1<<16, 5)
	for n := range 20 {
		if x.Often(1) != x.Often(-1) || x.Better(1, -1) || x.Better(-1, 1) || x.Better(1, 1) {
			t.Errorf("both came %d times: one is better", n)
		}
		x.Record(1)
		if more := n < 16; x.Better(1, -1) != more || x.Better(-1, 1) {
			t.Errorf("came %d and %d times: which is better", n+1, n)
		}
		x.Record(-1)
	}
}

// P5.5: Better is a strict order, as often as it is asked: none is better than itself, of two one at most, and three in a row go on.
func TestStrictOrder(t *testing.T) {
	for _, seed := range testkeys.Seeds() {
		x := New(16, seed)
		for round := range 8 {
			for i := range 75 {
				x.Record(testkeys.At(i + 31*round))
			}
			strict(t, x)
		}
	}
}

func strict(t *testing.T, x *Filter) {
	t.Helper()
	keys := []int{0, 1, 2, 3, 4, 5, -1, -4, api.MinInt, api.MinInt + 1, api.MaxInt, api.MaxInt - 2, 6 << 20, 13 << 20}
	for _, a := range keys {
		if x.Better(a, a) {
			t.Fatalf("%d is better than itself", a)
		}
		for _, b := range keys {
			if x.Better(a, b) && x.Better(b, a) {
				t.Fatalf("%d and %d are better than one another", a, b)
			}
			for _, c := range keys {
				if x.Better(a, b) && x.Better(b, c) && !x.Better(a, c) {
					t.Fatalf("%d, %d, %d: the first is not better than the third", a, b, c)
				}
			}
		}
	}
}

// P5.2, P5.3: what asks only changes nothing.
func TestAskingChangesNothing(t *testing.T) {
	x, p := New(16, 9), newPlain(16, 9)
	for i := range 70 {
		x.Record(testkeys.At(i))
		p.record(testkeys.At(i))
	}
	for key := range 300 {
		x.Often(key)
		x.Often(-key)
		x.Better(key, -key)
		x.Better(key, key)
		x.Ages()
	}
	same(t, "asked", x, p)
}

// P5.1: filters share nothing, be their seeds and capacities alike.
func TestFiltersAreApart(t *testing.T) {
	x, y, p := New(16, 1), New(16, 1), newPlain(16, 1)
	for i := range 900 {
		x.Record(i % 60)
		p.record(i % 60)
	}
	same(t, "the other filter", y, newPlain(16, 1))
	for range 5 {
		y.Record(99)
	}
	same(t, "the one filter", x, p)
}

// P5.1: both parts hang on the seed: keys seem to be there, or to come more often, that do not with another.
func TestSeedsTellApart(t *testing.T) {
	x, y, doors, counts := New(16, 1), New(16, 2), 0, 0
	for i := range 40 {
		x.Record(i % 20)
		y.Record(i % 20)
	}
	for key := 50; key < 5000; key++ {
		if x.Has(key) != y.Has(key) {
			doors++
		}
		if x.Count(key) != y.Count(key) {
			counts++
		}
	}
	if doors == 0 || counts == 0 {
		t.Errorf("two seeds: %d keys differ by the door, %d by the sketch", doors, counts)
	}
}
