package stripes

import (
	"slices"
	"testing"

	"pantry/api"
	"pantry/mix"
	"pantry/testkeys"
)

// plain are the chapter's stripes in its own words: the numbers that each ring holds, in order, and how many were lost.
type plain struct {
	size, seed int
	rings      [][]int
	lost       int
}

func (p *plain) place(thread int) int {
	return mix.Index(mix.Mix(p.seed, thread), 0, len(p.rings))
}

func (p *plain) offer(thread, n int) bool {
	at := p.place(thread)
	if len(p.rings[at]) == p.size {
		p.lost++
		return false
	}
	p.rings[at] = append(p.rings[at], n)
	return true
}

func (p *plain) take() (int, bool) {
	for at, held := range p.rings {
		if len(held) > 0 {
			p.rings[at] = slices.Clone(held[1:])
			return held[0], true
		}
	}
	return 0, false
}

func (p *plain) drain() []int {
	all := slices.Concat(p.rings...)
	clear(p.rings)
	return all
}

func (p *plain) lens() []int {
	var all []int
	for _, held := range p.rings {
		all = append(all, len(held))
	}
	return all
}

func (p *plain) held() int { return len(slices.Concat(p.rings...)) }

// both are stripes and plain ones that are handed the same calls; each call is held to what the plain ones answer, and so is what the stripes tell behind it.
type both struct {
	t *testing.T
	x *Stripes
	p *plain
}

// newBoth are both, of a count and a size that are powers of two.
func newBoth(t *testing.T, count, size, seed int) both {
	t.Helper()
	b := both{t, New(count, size, seed), &plain{size: size, seed: seed, rings: make([][]int, count)}}
	b.same("New")
	return b
}

func (b both) same(what string) {
	b.t.Helper()
	n, lost, lens := b.x.Len(), b.x.Lost(), b.x.Lens()
	if n != b.p.held() || lost != b.p.lost || !slices.Equal(lens, b.p.lens()) {
		b.t.Fatalf("%s: Len %d, Lost %d, Lens %v, want %d, %d, %v", what, n, lost, lens, b.p.held(), b.p.lost, b.p.lens())
	}
}

func (b both) offer(thread int, numbers ...int) {
	b.t.Helper()
	for _, n := range numbers {
		got, want := b.x.Offer(thread, n), b.p.offer(thread, n)
		if got != want {
			b.t.Fatalf("%d rings of %d: Offer(%d, %d) = %v, want %v", len(b.p.rings), b.p.size, thread, n, got, want)
		}
		b.same("Offer")
	}
}

// to offers numbers by a thread whose place that is.
func (b both) to(place int, numbers ...int) {
	b.t.Helper()
	b.offer(threadOf(b.p.seed, len(b.p.rings), place, 0), numbers...)
}

func (b both) take(times int) {
	b.t.Helper()
	for range times {
		n, is := b.x.Take()
		if wantN, wantIs := b.p.take(); n != wantN || is != wantIs {
			b.t.Fatalf("%d rings of %d: Take = %d, %v, want %d, %v", len(b.p.rings), b.p.size, n, is, wantN, wantIs)
		}
		b.same("Take")
	}
}

func (b both) drain() []int {
	b.t.Helper()
	got, want := b.x.Drain(), b.p.drain()
	if !slices.Equal(got, want) {
		b.t.Fatalf("%d rings of %d: Drain = %v, want %v", len(b.p.rings), b.p.size, few(got), few(want))
	}
	b.same("Drain")
	return got
}

// threadOf is a thread whose place, of so many rings, that is: Mix undone of a word that is the place, so many times round; each time round tells another thread.
func threadOf(seed, count, place, times int) int {
	return mix.Back(seed, uint64(place+count*times))
}

// few is a piece of a row that a message has room for.
func few(row []int) []int { return row[:min(len(row), 10)] }

// upTo are so many numbers, no two of them alike, from a first one on.
func upTo(first, count int) []int {
	var all []int
	for i := range count {
		all = append(all, first+i)
	}
	return all
}

// ends are numbers at and around 0, and at both ends.
func ends() []int { return []int{api.MinInt, -1, 0, 1, api.MaxInt} }

// shapes are counts and sizes that a test tries.
func shapes() [][2]int {
	return [][2]int{{1, 1}, {1, 4}, {2, 1}, {2, 2}, {4, 1}, {4, 2}, {8, 4}, {64, 1}, {64, 2}}
}

// holds tells that stripes hold those numbers, in that order, and none else.
func holds(t *testing.T, what string, x *Stripes, want []int) {
	t.Helper()
	if x.Len() != len(want) {
		t.Fatalf("%s: Len %d, want %d", what, x.Len(), len(want))
	}
	for _, w := range want {
		if n, is := x.Take(); n != w || !is {
			t.Fatalf("%s: Take = %d, %v, want %d", what, n, is, w)
		}
	}
	if n, is := x.Take(); n != 0 || is || x.Len() != 0 {
		t.Fatalf("%s: Take of none = %d, %v, Len %d", what, n, is, x.Len())
	}
}

// isNew tells that stripes are so many rings that hold none and have lost none.
func isNew(t *testing.T, what string, x *Stripes, count int) {
	t.Helper()
	if lens := x.Lens(); !slices.Equal(lens, make([]int, count)) {
		t.Fatalf("%s: %d rings, Lens %v and so on, want %d empty ones", what, len(lens), few(lens), count)
	}
	if x.Len() != 0 || x.Lost() != 0 {
		t.Fatalf("%s: Len %d, Lost %d, want 0, 0", what, x.Len(), x.Lost())
	}
	if n, is := x.Take(); n != 0 || is {
		t.Fatalf("%s: Take = %d, %v", what, n, is)
	}
	if all := x.Drain(); len(all) != 0 {
		t.Fatalf("%s: Drain = %v", what, few(all))
	}
}

// P13.1: counts at, beside and beyond both ends.
func TestNewOfCounts(t *testing.T) {
	for _, c := range []struct{ count, want int }{
		{api.MinInt, 1}, {api.MinInt + 1, 1}, {-64, 1}, {-2, 1}, {-1, 1}, {0, 1}, {1, 1}, {2, 2}, {3, 4}, {4, 4}, {5, 8},
		{31, 32}, {32, 32}, {33, 64}, {63, 64}, {64, 64}, {65, 64}, {128, 64}, {4096, 64},
		{1 << 32, 64}, {1<<32 + 1, 64}, {1 << 62, 64}, {api.MaxInt - 1, 64}, {api.MaxInt, 64},
	} {
		x := New(c.count, 1, 5)
		isNew(t, "New", x, c.want)
		// Each of the rings can be reached, and each holds one.
		for place := range c.want {
			thread := threadOf(5, c.want, place, 0)
			if !x.Offer(thread, place) || x.Offer(thread, -1) {
				t.Fatalf("New(%d): the ring %d of size 1", c.count, place)
			}
		}
		holds(t, "New", x, upTo(0, c.want))
	}
}

// P13.1: the count is the least power of two that is enough, at each count up to MaxStripes.
func TestNewOfEveryCount(t *testing.T) {
	for count := -3; count <= api.MaxStripes+3; count++ {
		want := 1
		for want < count && want < 64 {
			want += want
		}
		isNew(t, "New", New(count, 2, count), want)
	}
}

// P13.1: sizes at, beside and beyond both ends: so many Offers each ring has room for, be there one of them, some, or as many as may be.
func TestNewOfSizes(t *testing.T) {
	for _, c := range []struct{ size, want int }{
		{api.MinInt, 1}, {-1, 1}, {0, 1}, {1, 1}, {2, 2}, {3, 4}, {4, 4}, {5, 8}, {64, 64}, {65, 128}, {2049, 4096},
		{4095, 4096}, {4096, 4096}, {4097, 4096}, {1 << 32, 4096}, {1 << 62, 4096}, {api.MaxInt, 4096},
	} {
		for _, count := range []int{1, 2, 64} {
			x := New(count, c.size, 3)
			isNew(t, "New", x, count)
			for _, place := range []int{0, count - 1} {
				x.Drain()
				thread, room := threadOf(3, count, place, 1), 0
				for room <= api.MaxRing && x.Offer(thread, room) {
					room++
				}
				if room != c.want || x.Lens()[place] != room || x.Len() != room {
					t.Fatalf("New(%d, %d): the ring %d had room for %d, want %d; Len %d", count, c.size, place, room, c.want, x.Len())
				}
				holds(t, "filled", x, upTo(0, room))
			}
		}
	}
}

// P13.1, P13.2: as many rings as may be, each as great as may be, all full.
func TestAllFull(t *testing.T) {
	x := New(api.MaxInt, api.MaxInt, 9)
	for n := range 64 * 4096 {
		// The last ring is filled first.
		if !x.Offer(threadOf(9, 64, 63-n/4096, n), n) {
			t.Fatalf("Offer number %d is refused", n)
		}
	}
	for place, n := range x.Lens() {
		if n != 4096 || x.Offer(threadOf(9, 64, place, 0), -1) {
			t.Fatalf("the ring %d holds %d", place, n)
		}
	}
	if x.Len() != 64*4096 || x.Lost() != 64 {
		t.Fatalf("Len %d, Lost %d", x.Len(), x.Lost())
	}
	all := x.Drain()
	for i := range 64 {
		if part := all[i*4096 : (i+1)*4096]; !slices.Equal(part, upTo((63-i)*4096, 4096)) {
			t.Fatalf("the Drain of the ring %d = %v and so on", i, few(part))
		}
	}
	if len(all) != 64*4096 || x.Len() != 0 || x.Lost() != 64 {
		t.Fatalf("Drain of %d, Len %d, Lost %d", len(all), x.Len(), x.Lost())
	}
}

// P13.1: seeds at and around 0 and at both ends; Place of threads at and around 0 and at both ends, and of others. It is the place of the thread's word in a row of the rings, and the same again, whatever was done in between.
func TestPlace(t *testing.T) {
	for _, seed := range append(ends(), 1<<40, 12345) {
		for _, c := range []struct{ count, rings int }{
			{api.MinInt, 1}, {0, 1}, {1, 1}, {2, 2}, {3, 4}, {5, 8}, {16, 16}, {63, 64}, {64, 64}, {65, 64}, {api.MaxInt, 64},
		} {
			x := New(c.count, 2, seed)
			isNew(t, "New", x, c.rings)
			threads := append(ends(), upTo(2, 200)...)
			for i := range 200 {
				threads = append(threads, testkeys.At(i))
			}
			for _, thread := range threads {
				word := mix.Mix(seed, thread)
				p := x.Place(thread)
				if p < 0 || p >= c.rings || p != mix.Index(word, 0, c.rings) || p != int(word&uint64(c.rings-1)) {
					t.Fatalf("New(%d, 2, %d): Place(%d) = %d, the word is %x", c.count, seed, thread, p, word)
				}
				x.Offer(thread, thread)
				if again := x.Place(thread); again != p {
					t.Fatalf("New(%d, 2, %d): Place(%d) = %d, then %d", c.count, seed, thread, p, again)
				}
			}
			x.Take()
			x.Drain()
			y := New(c.count, 2, seed)
			for _, thread := range threads {
				if x.Place(thread) != y.Place(thread) {
					t.Fatalf("New(%d, 2, %d): Place(%d) = %d, of new ones %d", c.count, seed, thread, x.Place(thread), y.Place(thread))
				}
			}
		}
	}
}

// P13.1: places that are written out, worked out apart from the program.
func TestPlacesWrittenOut(t *testing.T) {
	for _, c := range []struct {
		count, seed int
		want        []int // of the threads MinInt, -1, 0, 1 and MaxInt
	}{
		{1, api.MinInt, []int{0, 0, 0, 0, 0}},
		{1, -1, []int{0, 0, 0, 0, 0}},
		{1, 0, []int{0, 0, 0, 0, 0}},
		{1, 1, []int{0, 0, 0, 0, 0}},
		{1, api.MaxInt, []int{0, 0, 0, 0, 0}},
		{4, api.MinInt, []int{0, 1, 2, 2, 3}},
		{4, -1, []int{3, 0, 0, 0, 3}},
		{4, 0, []int{2, 3, 0, 1, 1}},
		{4, 1, []int{3, 0, 3, 0, 0}},
		{4, api.MaxInt, []int{0, 3, 3, 0, 0}},
		{64, api.MinInt, []int{0, 61, 10, 62, 59}},
		{64, -1, []int{43, 32, 0, 4, 39}},
		{64, 0, []int{10, 59, 0, 37, 61}},
		{64, 1, []int{27, 4, 47, 32, 24}},
		{64, api.MaxInt, []int{0, 39, 43, 24, 32}},
	} {
		x := New(c.count, 1, c.seed)
		for i, thread := range ends() {
			if p := x.Place(thread); p != c.want[i] {
				t.Errorf("New(%d, 1, %d): Place(%d) = %d, want %d", c.count, c.seed, thread, p, c.want[i])
			}
		}
	}
}

// P13.1: threads go to all of the rings, and the size has no part in where.
func TestPlacesAreSpread(t *testing.T) {
	for _, seed := range testkeys.Seeds() {
		x, y := New(64, 1, seed), New(64, 4096, seed)
		times := make([]int, 64)
		for thread := range 64 * 40 {
			p := x.Place(thread)
			if p < 0 || p > 63 || y.Place(thread) != p {
				t.Fatalf("seed %d: Place(%d) = %d, and %d", seed, thread, p, y.Place(thread))
			}
			times[p]++
		}
		if slices.Min(times) < 10 || slices.Max(times) > 100 {
			t.Errorf("seed %d: so many threads go to each ring: %v", seed, times)
		}
	}
}

// The chapter's example.
func TestExample(t *testing.T) {
	for _, seed := range ends() {
		x := New(1, 2, seed)
		for i, want := range []bool{true, true, false} {
			if got := x.Offer(3+i%2, 7+i); got != want {
				t.Errorf("Offer(%d, %d) = %v, want %v", 3+i%2, 7+i, got, want)
			}
		}
		if all := x.Drain(); !slices.Equal(all, []int{7, 8}) {
			t.Errorf("Drain = %v, want 7 8", all)
		}
	}
}

// P13.2: threads whose place is one and the same share its room and its order; those of other places have room of their own.
func TestOffer(t *testing.T) {
	for _, s := range shapes() {
		for _, seed := range ends() {
			count, size := s[0], s[1]
			x := New(count, size, seed)
			for i := range size + 2 {
				for place := range count {
					// Another thread each time.
					got := x.Offer(threadOf(seed, count, place, i), 100*place+i)
					if want := i < size; got != want || x.Lens()[place] != min(i+1, size) {
						t.Fatalf("%d rings of %d: Offer number %d to the ring %d = %v, Lens %v", count, size, i+1, place, got, x.Lens())
					}
				}
			}
			if x.Len() != count*size || x.Lost() != 2*count {
				t.Fatalf("%d rings of %d: Len %d, Lost %d", count, size, x.Len(), x.Lost())
			}
			for place := range count {
				for i := range size {
					if n, is := x.Take(); n != 100*place+i || !is {
						t.Fatalf("%d rings of %d: Take = %d, %v, want %d", count, size, n, is, 100*place+i)
					}
				}
			}
			holds(t, "all taken", x, nil)
		}
	}
}

// P13.2: each number is held as it is, also 0 and those below it, by threads at the ends.
func TestEveryNumber(t *testing.T) {
	for _, s := range shapes() {
		for _, thread := range ends() {
			for _, n := range ends() {
				x := New(s[0], s[1], 1)
				for range s[1] {
					if !x.Offer(thread, n) {
						t.Fatalf("%d rings of %d: Offer(%d, %d) is refused", s[0], s[1], thread, n)
					}
				}
				if x.Offer(thread, n) || x.Lens()[x.Place(thread)] != s[1] {
					t.Fatalf("%d rings of %d: Offer(%d, %d) to a full ring; Lens %v", s[0], s[1], thread, n, x.Lens())
				}
				if got, is := x.Take(); got != n || !is {
					t.Errorf("Take = %d, %v, want %d", got, is, n)
				}
				if all := x.Drain(); !slices.Equal(all, slices.Repeat([]int{n}, s[1]-1)) {
					t.Errorf("Drain = %v, want %d of %d", all, s[1]-1, n)
				}
			}
		}
	}
}

// P13.2: an Offer to a full ring is refused however much room the others have, and changes nothing but Lost: the same is taken, or drained, and offered behind it.
func TestRefusedOffer(t *testing.T) {
	for _, s := range shapes() {
		count, size := s[0], s[1]
		for _, full := range []int{0, count / 2, count - 1} {
			for _, others := range []int{0, size - 1} {
				for _, drain := range []bool{false, true} {
					b := newBoth(t, count, size, 7)
					for place := range count {
						if place != full {
							b.to(place, upTo(100*place, others)...)
						}
					}
					b.to(full, upTo(9000, size)...)
					for i, n := range ends() {
						b.offer(threadOf(7, count, full, i), n)
					}
					if b.x.Lost() != 5 {
						t.Fatalf("%d rings of %d: Lost %d, want 5", count, size, b.x.Lost())
					}
					if drain {
						b.drain()
					} else {
						b.take(b.x.Len() + 1)
					}
					b.to(full, upTo(50, size+1)...)
					b.drain()
				}
			}
		}
	}
}

// P13.2: Take where no ring holds any: of new ones, of ones of which all was taken, and of drained ones. It tells 0, false, and changes nothing.
func TestTakeOfNone(t *testing.T) {
	for _, s := range shapes() {
		count, size := s[0], s[1]
		b := newBoth(t, count, size, -4)
		none := func(what string) {
			t.Helper()
			for range 3 {
				if n, is := b.x.Take(); n != 0 || is {
					t.Fatalf("%d rings of %d, %s: Take = %d, %v", count, size, what, n, is)
				}
				b.same(what)
			}
		}
		none("new")
		for place := range count {
			b.to(place, upTo(place, size+1)...)
		}
		b.take(count * size)
		none("all taken")
		for place := range count {
			b.to(place, place)
		}
		b.drain()
		none("drained")
		for place := range count {
			b.to(place, upTo(8*place, size)...)
		}
		b.drain()
	}
}

// P13.2: Take where one ring alone holds some, be it the first, the last, or one between.
func TestTakeOfOneRing(t *testing.T) {
	for _, s := range shapes() {
		count, size := s[0], s[1]
		for place := range count {
			b := newBoth(t, count, size, 1<<40)
			b.to(place, upTo(10, size)...)
			for i := range size {
				if n, is := b.x.Take(); n != 10+i || !is || b.x.Lens()[place] != size-i-1 {
					t.Fatalf("%d rings of %d: Take of the ring %d = %d, %v, Lens %v", count, size, place, n, is, b.x.Lens())
				}
			}
			holds(t, "all taken", b.x, nil)
		}
	}
}

// P13.2: Take where several rings hold some: of the first one until it is emptied, then of the next one, and of the first one again once it holds some, in whatever order they were offered.
func TestTakeOfSeveralRings(t *testing.T) {
	b := newBoth(t, 4, 4, 6)
	b.to(3, 30, 31)
	b.to(1, 10, 11, 12)
	wantTake(t, b, 10, 11)
	b.to(2, 20)
	wantTake(t, b, 12, 20, 30)
	b.to(0, 1)
	b.to(3, 32)
	wantTake(t, b, 1, 31)
	b.to(0, 2)
	b.to(2, 21)
	wantTake(t, b, 2, 21, 32)
	b.take(2)
	// The Takes go by the rings' order, not on from where the last one was.
	b.to(1, 13)
	b.to(3, 33)
	wantTake(t, b, 13)
	b.to(0, 3)
	wantTake(t, b, 3, 33)
	b.take(1)
}

// wantTake tells that those numbers are taken, in that order.
func wantTake(t *testing.T, b both, numbers ...int) {
	t.Helper()
	for _, want := range numbers {
		if n, is := b.x.Take(); n != want || !is {
			t.Fatalf("Take = %d, %v, want %d", n, is, want)
		}
		b.p.take()
		b.same("Take")
	}
}

// P13.2: Drain where no ring holds any, where one does, and where several do: ring by ring; Offers behind it have all the room there is.
func TestDrain(t *testing.T) {
	for _, s := range shapes() {
		count, size := s[0], s[1]
		b := newBoth(t, count, size, 11)
		b.drain()
		for place := range count {
			b.to(place, upTo(40, size)...)
			if all := b.drain(); !slices.Equal(all, upTo(40, size)) {
				t.Fatalf("%d rings of %d: Drain of the ring %d = %v", count, size, place, all)
			}
			b.drain()
		}
		for round := range 3 {
			// The last ring is offered first, so that the order is that of the rings.
			for place := count - 1; place >= 0; place-- {
				if (place+round)%3 != 0 {
					b.to(place, upTo(100*place, 1+place%size)...)
				}
			}
			b.take(round)
			b.drain()
			b.drain()
			b.take(1)
		}
		for place := range count {
			b.to(place, upTo(100*place, size+1)...)
		}
		b.drain()
	}
}

// P13.2: what is drained, written out.
func TestDrainWrittenOut(t *testing.T) {
	b := newBoth(t, 4, 2, 0)
	b.to(2, 20)
	b.to(0, 1, 2, 3)
	b.to(3, 30, 31)
	b.to(2, 21, 22)
	if all := b.drain(); !slices.Equal(all, []int{1, 2, 20, 21, 30, 31}) || b.x.Lost() != 2 {
		t.Errorf("Drain = %v, Lost %d", all, b.x.Lost())
	}
	b.to(1, 10)
	if all := b.drain(); !slices.Equal(all, []int{10}) || b.x.Lost() != 2 {
		t.Errorf("Drain = %v, Lost %d", all, b.x.Lost())
	}
}

// P13.1: Lost counts each Offer that told false, to whichever ring, and none else; neither Take nor Drain changes it, nor what is offered behind them.
func TestLost(t *testing.T) {
	for _, s := range shapes() {
		count, size := s[0], s[1]
		x, lost := New(count, size, -1), 0
		is := func(what string) {
			t.Helper()
			if x.Lost() != lost {
				t.Fatalf("%d rings of %d, %s: Lost %d, want %d", count, size, what, x.Lost(), lost)
			}
		}
		for round := range 5 {
			for place := range count {
				thread := threadOf(-1, count, place, round)
				for range size {
					x.Offer(thread, round)
					is("held")
				}
				for range (round + place) % 3 {
					x.Offer(thread, round)
					lost++
					is("refused")
				}
			}
			x.Take()
			is("taken")
			x.Offer(threadOf(-1, count, 0, 5), 3)
			is("held behind a Take")
			x.Drain()
			is("drained")
			x.Drain()
			x.Take()
			is("asked for none")
		}
		if lost == 0 {
			t.Errorf("%d rings of %d: none was lost", count, size)
		}
	}
}

// P13.1: what asks only changes nothing, as often as it is asked.
func TestAskingChangesNothing(t *testing.T) {
	for _, s := range shapes() {
		b := newBoth(t, s[0], s[1], 2)
		for place := range s[0] {
			b.to(place, upTo(1, s[1]+place%2)...)
		}
		for i := range 5 {
			b.x.Len()
			b.x.Lens()
			b.x.Lost()
			b.x.Place(i)
			b.same("asked")
		}
		b.drain()
	}
}

// scribble writes over a list, and its spare room.
func scribble(list []int) {
	list = list[:cap(list)]
	for i := range list {
		list[i] = -77
	}
}

// W6: the lists that Drain answers share no memory with the stripes, nor with one another, their spare room neither.
func TestDrainedListsAreApart(t *testing.T) {
	for _, s := range shapes() {
		count, size := s[0], s[1]
		b := newBoth(t, count, size, 21)
		fill := func(first int) {
			for place := range count {
				b.to(place, upTo(first+10*place, 1+(place+first)%size)...)
			}
		}
		var lists, were [][]int
		for round := range 3 {
			fill(1000 * round)
			list := b.drain()
			lists, were = append(lists, list), append(were, slices.Clone(list))
		}
		// What is offered lies where the drained lay; they stay as they were.
		fill(5000)
		left := slices.Concat(b.p.rings...)
		for round, list := range lists {
			if !slices.Equal(list, were[round]) {
				t.Fatalf("%d rings of %d: the list %d is %v now", count, size, round, few(list))
			}
		}
		scribble(lists[1])
		if !slices.Equal(lists[0], were[0]) || !slices.Equal(lists[2], were[2]) {
			t.Fatalf("%d rings of %d: written over the second, the others are %v, %v", count, size, few(lists[0]), few(lists[2]))
		}
		scribble(lists[0])
		scribble(lists[2])
		b.same("lists written over")
		holds(t, "lists written over", b.x, left)
		b.x.Offer(3, 1)
		scribble(b.x.Drain())
		scribble(b.x.Drain())
		holds(t, "the last written over", b.x, nil)
		b.x.Offer(3, 4)
		holds(t, "offered behind it", b.x, []int{4})
	}
}

// W6: the lists that Lens answers share no memory with the stripes, nor with one another, nor with what was drained.
func TestLensAreApart(t *testing.T) {
	for _, s := range shapes() {
		count, size := s[0], s[1]
		b := newBoth(t, count, size, 22)
		empty := b.x.Lens()
		for place := range count {
			b.to(place, upTo(10*place, 1+place%size)...)
		}
		want := b.p.lens()
		some, again := b.x.Lens(), b.x.Lens()
		b.take(1)
		left := slices.Concat(b.p.rings...)
		if !slices.Equal(empty, make([]int, count)) || !slices.Equal(some, want) || !slices.Equal(again, want) {
			t.Fatalf("%d rings of %d: Lens are %v, %v and %v now", count, size, few(empty), few(some), few(again))
		}
		scribble(empty)
		scribble(some)
		if !slices.Equal(again, want) {
			t.Fatalf("%d rings of %d: written over others, Lens are %v", count, size, few(again))
		}
		scribble(again)
		b.same("lists written over")
		before := b.x.Lens()
		all := b.x.Drain()
		after := b.x.Lens()
		scribble(before)
		scribble(after)
		if !slices.Equal(all, left) || b.x.Len() != 0 {
			t.Fatalf("%d rings of %d: Drain = %v, Len %d", count, size, few(all), b.x.Len())
		}
		isNewButLost(t, b.x, count)
	}
}

// isNewButLost tells that stripes are so many rings that hold none.
func isNewButLost(t *testing.T, x *Stripes, count int) {
	t.Helper()
	if lens := x.Lens(); !slices.Equal(lens, make([]int, count)) {
		t.Fatalf("Lens %v and so on, want %d empty ones", few(lens), count)
	}
	holds(t, "empty", x, nil)
}

// P13.1: stripes share nothing, be they made alike.
func TestStripesAreApart(t *testing.T) {
	for _, s := range shapes() {
		count, size := s[0], s[1]
		a, b := newBoth(t, count, size, 8), newBoth(t, count, size, 8)
		c := newBoth(t, count, size, 9)
		for place := range count {
			a.to(place, upTo(100*place, size+2)...)
			b.same("the second one")
			c.same("the third one")
			b.to(place, upTo(50+100*place, size)...)
			a.same("the first one")
		}
		b.take(2)
		a.same("the first one, behind Takes")
		a.drain()
		b.same("the second one, behind a Drain")
		c.to(0, 4)
		a.same("the first one, behind an Offer")
		for thread := range 100 {
			if a.x.Place(thread) != a.p.place(thread) || c.x.Place(thread) != c.p.place(thread) {
				t.Fatalf("Place(%d) = %d, %d", thread, a.x.Place(thread), c.x.Place(thread))
			}
		}
		b.drain()
		c.drain()
		a.drain()
	}
}

// book writes down what stripes were offered by each thread, what they took of that, and what they gave out again.
type book struct {
	x      *Stripes
	ids    []int   // the threads
	offers int     // how many in all
	kept   [][]int // by the places of ids
	gone   [][]int
	all    []int // all that was kept, in order
	out    []int // all that is gone, in order
}

func newBook(x *Stripes, ids []int) *book {
	return &book{x: x, ids: ids, kept: make([][]int, len(ids)), gone: make([][]int, len(ids))}
}

// offer offers a number that tells which thread's it is, another one each time.
func (k *book) offer(who int) {
	k.offers++
	n := k.offers*len(k.ids) + who
	if k.x.Offer(k.ids[who], n) {
		k.kept[who], k.all = append(k.kept[who], n), append(k.all, n)
	}
}

func (k *book) take() {
	if n, is := k.x.Take(); is {
		k.goes(n)
	}
}

func (k *book) drain() {
	for _, n := range k.x.Drain() {
		k.goes(n)
	}
}

func (k *book) goes(n int) {
	who := n % len(k.ids)
	k.gone[who], k.out = append(k.gone[who], n), append(k.out, n)
}

// inOrder tells whether what is gone of each thread's is what was kept of them, in its order; with one ring that holds of all together.
func (k *book) inOrder() bool {
	for who, gone := range k.gone {
		if !begins(k.kept[who], gone) {
			return false
		}
	}
	return len(k.x.Lens()) > 1 || begins(k.all, k.out)
}

// begins tells whether a row begins with the other one.
func begins(row, with []int) bool {
	return len(with) <= len(row) && slices.Equal(row[:len(with)], with)
}

// adds tells whether what was offered is taken, held, or lost, each once.
func (k *book) adds() bool {
	held := 0
	for _, n := range k.x.Lens() {
		held += n
	}
	return held == k.x.Len() && k.offers == len(k.out)+held+k.x.Lost() && k.offers == len(k.all)+k.x.Lost()
}

// chance is a row of numbers that looks like chance, and is the same each time: each from 0 to one below what it is asked for.
func chance(seed int) func(int) int {
	word := uint64(seed)
	return func(k int) int {
		word = word*6364136223846793005 + 1442695040888963407
		return int(word >> 33 % uint64(k))
	}
}

// P13.3, P13.4: counted behind each call of long rows of them, by some threads, in which offers, or takes, are the more by turns.
func TestTakenHeldOrLost(t *testing.T) {
	for _, s := range shapes() {
		for _, seed := range testkeys.Seeds() {
			room := s[0] * s[1]
			k, next := newBook(New(s[0], s[1], seed), append(ends(), upTo(2, 8)...)), chance(seed)
			for i := range 400 {
				offers := 3 + 4*(i/(2*room+5)%2)
				switch do := next(10); {
				case do < offers:
					k.offer(next(len(k.ids)))
				case do < 9 || next(room) > 0:
					k.take()
				default:
					k.drain()
				}
				if !k.adds() || !k.inOrder() {
					t.Fatalf("%d rings of %d, call %d: %d offered, %d kept, %d gone, Len %d, Lost %d", s[0], s[1], i, k.offers, len(k.all), len(k.out), k.x.Len(), k.x.Lost())
				}
			}
			if k.drain(); !k.inOrder() || len(k.out) != len(k.all) || !k.adds() {
				t.Fatalf("%d rings of %d: %d are gone of %d that were kept, or in another order", s[0], s[1], len(k.out), len(k.all))
			}
		}
	}
}

// P13.3: with one ring all is taken in the order in which it was offered, by however many threads.
func TestOneRing(t *testing.T) {
	for _, count := range []int{api.MinInt, -1, 0, 1} {
		for _, seed := range testkeys.Seeds() {
			k := newBook(New(count, 8, seed), upTo(-10, 20))
			for round := range 5 {
				for i := range 12 {
					k.offer((7*i + round) % 20)
				}
				for range round {
					k.take()
				}
				k.offer(round)
				if !k.inOrder() || !k.adds() {
					t.Fatalf("New(%d, 8, %d): offered %v, gone %v", count, seed, k.all, k.out)
				}
			}
			if k.drain(); !slices.Equal(k.all, k.out) {
				t.Fatalf("New(%d, 8, %d): offered %v, gone %v", count, seed, k.all, k.out)
			}
		}
	}
}

// P13.1 to P13.4: every row of seven calls on a few small rings: Offers to the first and to the last, a Take, a Drain.
func TestEveryRowOfCalls(t *testing.T) {
	const calls, length = 4, 7
	rows := 1
	for range length {
		rows *= calls
	}
	for _, s := range [][2]int{{1, 1}, {1, 2}, {2, 1}, {2, 2}, {4, 1}} {
		for row := range rows {
			b, left := newBoth(t, s[0], s[1], row), row
			k := newBook(New(s[0], s[1], row), []int{threadOf(row, s[0], 0, 0), threadOf(row, s[0], s[0]-1, 1)})
			for i := range length {
				do := left % calls
				left /= calls
				switch do {
				case 0, 1:
					b.offer(k.ids[do], i)
					k.offer(do)
				case 2:
					b.take(1)
					k.take()
				default:
					b.drain()
					k.drain()
				}
				if !k.adds() || !k.inOrder() {
					t.Fatalf("%d rings of %d, row %d: offered %d, kept %v, gone %v, Len %d, Lost %d", s[0], s[1], row, k.offers, k.all, k.out, k.x.Len(), k.x.Lost())
				}
			}
			b.drain()
		}
	}
}

// P13.1 to P13.4: stripes go with the plain ones through long rows of calls, of threads and numbers that testkeys gives.
func TestAsThePlainOnes(t *testing.T) {
	for _, s := range [][2]int{{1, 1}, {1, 8}, {2, 4}, {4, 2}, {8, 8}, {64, 4}} {
		for _, seed := range testkeys.Seeds() {
			b, next := newBoth(t, s[0], s[1], seed), chance(seed)
			room := s[0] * s[1]
			for i := range 1500 {
				offers := 3 + 4*(i/(3*room)%2)
				switch do := next(10); {
				case do < offers:
					b.offer(testkeys.At(next(100)), testkeys.At(i))
				case do < 9 || next(room) > 0:
					b.take(1)
				default:
					b.drain()
				}
			}
			b.drain()
		}
	}
}
