package ring

import (
	"slices"
	"testing"

	"pantry/api"
	"pantry/testkeys"
)

// plain is the chapter's ring in its own words: the numbers that it holds, in order, and how many were lost.
type plain struct {
	size int
	held []int
	lost int
}

func (p *plain) offer(n int) bool {
	if len(p.held) == p.size {
		p.lost++
		return false
	}
	p.held = append(p.held, n)
	return true
}

func (p *plain) take() (int, bool) {
	if len(p.held) == 0 {
		return 0, false
	}
	n := p.held[0]
	p.held = slices.Clone(p.held[1:])
	return n, true
}

func (p *plain) drain() []int {
	all := p.held
	p.held = nil
	return all
}

// both are a ring and a plain one that are handed the same calls; each call is held to what the plain one answers, and so is what the ring tells behind it.
type both struct {
	t *testing.T
	x *Ring
	p *plain
}

// newBoth are both, of a size that is a power of two.
func newBoth(t *testing.T, size int) both {
	t.Helper()
	b := both{t, New(size), &plain{size: size}}
	b.same("New")
	return b
}

func (b both) same(what string) {
	b.t.Helper()
	size, n, lost := b.x.Size(), b.x.Len(), b.x.Lost()
	if size != b.p.size || n != len(b.p.held) || lost != b.p.lost {
		b.t.Fatalf("%s: Size %d, Len %d, Lost %d, want %d, %d, %d", what, size, n, lost, b.p.size, len(b.p.held), b.p.lost)
	}
}

func (b both) offer(numbers ...int) {
	b.t.Helper()
	for _, n := range numbers {
		got, want := b.x.Offer(n), b.p.offer(n)
		if got != want {
			b.t.Fatalf("size %d: Offer(%d) = %v, want %v", b.p.size, n, got, want)
		}
		b.same("Offer")
	}
}

func (b both) take(times int) {
	b.t.Helper()
	for range times {
		n, is := b.x.Take()
		if wantN, wantIs := b.p.take(); n != wantN || is != wantIs {
			b.t.Fatalf("size %d: Take = %d, %v, want %d, %v", b.p.size, n, is, wantN, wantIs)
		}
		b.same("Take")
	}
}

func (b both) drain() []int {
	b.t.Helper()
	got, want := b.x.Drain(), b.p.drain()
	if !slices.Equal(got, want) {
		b.t.Fatalf("size %d: Drain = %v, want %v", b.p.size, few(got), few(want))
	}
	b.same("Drain")
	return got
}

// few is a piece of a row that a message has room for.
func few(row []int) []int { return row[:min(len(row), 10)] }

// upTo are so many numbers, no two of them alike, from a first one on.
func upTo(first, count int) []int {
	var all []int
	for i := range count {
		all = append(all, first+i)
	}
	return all
}

// turned are both, empty, whose beginning has moved on by so many places.
func turned(t *testing.T, size, by int) both {
	t.Helper()
	b := newBoth(t, size)
	for i := range by {
		b.offer(-1 - i)
		b.take(1)
	}
	return b
}

// sizes are those that a test tries where every place is tried, too.
func sizes() []int { return []int{1, 2, 4, 8, 16} }

// holds tells that a ring holds those numbers, in that order, and none else.
func holds(t *testing.T, what string, x *Ring, want []int) {
	t.Helper()
	if x.Len() != len(want) {
		t.Fatalf("%s: Len %d, want %d", what, x.Len(), len(want))
	}
	for _, w := range want {
		if n, is := x.Take(); n != w || !is {
			t.Fatalf("%s: Take = %d, %v, want %d", what, n, is, w)
		}
	}
	if n, is := x.Take(); n != 0 || is || x.Len() != 0 {
		t.Fatalf("%s: Take of an empty one = %d, %v, Len %d", what, n, is, x.Len())
	}
}

// P12.1: sizes at, beside and beyond both ends, and what each ring holds.
func TestNew(t *testing.T) {
	for _, c := range []struct{ size, want int }{
		{api.MinInt, 1}, {api.MinInt + 1, 1}, {-4096, 1}, {-2, 1}, {-1, 1}, {0, 1}, {1, 1}, {2, 2}, {3, 4}, {4, 4}, {5, 8},
		{1000, 1024}, {2048, 2048}, {2049, 4096}, {4095, 4096}, {4096, 4096}, {4097, 4096}, {8192, 4096},
		{1 << 32, 4096}, {1<<32 + 1, 4096}, {1 << 62, 4096}, {api.MaxInt - 1, 4096}, {api.MaxInt, 4096},
	} {
		x := New(c.size)
		if x.Size() != c.want || x.Len() != 0 || x.Lost() != 0 {
			t.Fatalf("New(%d): Size %d, Len %d, Lost %d, want %d, 0, 0", c.size, x.Size(), x.Len(), x.Lost(), c.want)
		}
		if n, is := x.Take(); n != 0 || is {
			t.Errorf("New(%d): Take = %d, %v", c.size, n, is)
		}
		if all := x.Drain(); len(all) != 0 {
			t.Errorf("New(%d): Drain = %v", c.size, few(all))
		}
		b := both{t, x, &plain{size: c.want}}
		b.offer(upTo(1, c.want+2)...)
		if x.Len() != c.want || x.Lost() != 2 || x.Size() != c.want {
			t.Errorf("New(%d): filled, Size %d, Len %d, Lost %d", c.size, x.Size(), x.Len(), x.Lost())
		}
		holds(t, "New", x, upTo(1, c.want))
	}
}

// P12.1: the size is the least power of two that is enough, at each size up to MaxRing.
func TestNewOfEverySize(t *testing.T) {
	for size := -3; size <= api.MaxRing+3; size++ {
		want := 1
		for want < size && want < 4096 {
			want += want
		}
		if x := New(size); x.Size() != want || x.Len() != 0 || x.Lost() != 0 {
			t.Fatalf("New(%d): Size %d, Len %d, Lost %d, want %d, 0, 0", size, x.Size(), x.Len(), x.Lost(), want)
		}
	}
}

// The chapter's example.
func TestExample(t *testing.T) {
	x := New(2)
	for i, want := range []bool{true, true, false} {
		if got := x.Offer(5 + i); got != want {
			t.Errorf("Offer(%d) = %v, want %v", 5+i, got, want)
		}
	}
	if n, is := x.Take(); n != 5 || !is {
		t.Errorf("Take = %d, %v, want 5", n, is)
	}
	if all := x.Drain(); !slices.Equal(all, []int{6}) {
		t.Errorf("Drain = %v, want 6", all)
	}
}

// P12.2: Offer to a ring that is empty, that lacks one, and that is full, wherever its beginning is.
func TestOffer(t *testing.T) {
	for _, size := range append(sizes(), api.MaxRing) {
		for _, by := range []int{0, 1, size - 1, size, size + 1} {
			x := turned(t, size, by).x
			for i := range size {
				if !x.Offer(10+i) || x.Len() != i+1 || x.Lost() != 0 {
					t.Fatalf("size %d, turned by %d: Offer number %d: Len %d, Lost %d", size, by, i+1, x.Len(), x.Lost())
				}
			}
			if x.Offer(7) || x.Len() != size || x.Lost() != 1 {
				t.Fatalf("size %d, turned by %d: Offer to a full one: Len %d, Lost %d", size, by, x.Len(), x.Lost())
			}
			holds(t, "offered", x, upTo(10, size))
		}
	}
}

// P12.2: a ring of size 1 holds one, and another only when that is gone, be it taken or drained.
func TestSizeOne(t *testing.T) {
	b := newBoth(t, 1)
	for i := range 5 {
		b.offer(i, i+1, i+2)
		b.take(2)
		b.offer(i+3, i+4)
		if all := b.drain(); !slices.Equal(all, []int{i + 3}) {
			t.Errorf("round %d: Drain = %v", i, all)
		}
		b.drain()
	}
	if b.x.Lost() != 15 {
		t.Errorf("Lost %d, want 15", b.x.Lost())
	}
}

// ends are numbers at and around 0, and at both ends.
func ends() []int { return []int{api.MinInt, -1, 0, 1, api.MaxInt} }

// P12.2: each number is held as it is, once for each time that it was offered, also 0 and those below it.
func TestEveryNumber(t *testing.T) {
	for _, size := range sizes() {
		for _, n := range ends() {
			b := newBoth(t, size)
			for range size {
				b.offer(n)
			}
			b.offer(n)
			if got, is := b.x.Take(); got != n || !is {
				t.Errorf("size %d: Take = %d, %v, want %d", size, got, is, n)
			}
			if all := b.x.Drain(); len(all) != size-1 || slices.ContainsFunc(all, func(m int) bool { return m != n }) {
				t.Errorf("size %d: Drain = %v, want %d of %d", size, all, size-1, n)
			}
		}
	}
	x := New(8)
	for _, n := range ends() {
		if !x.Offer(n) {
			t.Errorf("Offer(%d) is refused", n)
		}
	}
	holds(t, "ends", x, ends())
	y := New(5)
	for _, n := range ends() {
		y.Offer(n)
	}
	if all := y.Drain(); !slices.Equal(all, ends()) {
		t.Errorf("Drain = %v, want %v", all, ends())
	}
}

// P12.2: an Offer that tells false changes nothing but Lost: the same is taken, or drained, and offered behind it.
func TestRefusedOffer(t *testing.T) {
	for _, size := range sizes() {
		for by := range size + 1 {
			for _, n := range ends() {
				for _, drain := range []bool{false, true} {
					b := turned(t, size, by)
					b.offer(upTo(50, size)...)
					b.offer(n, n, n)
					if b.x.Lost() != 3 {
						t.Fatalf("size %d: Lost %d, want 3", size, b.x.Lost())
					}
					if drain {
						b.drain()
					} else {
						b.take(size)
					}
					b.offer(upTo(80, size)...)
					holds(t, "behind the refused", b.x, upTo(80, size))
				}
			}
		}
	}
}

// P12.2: Take of a ring that is empty: a new one, one of which all was taken, and one that was drained. It tells 0, false, and changes nothing.
func TestTakeOfNone(t *testing.T) {
	for _, size := range sizes() {
		for by := range size + 1 {
			b := turned(t, size, by)
			none := func(what string) {
				t.Helper()
				for range 3 {
					if n, is := b.x.Take(); n != 0 || is || b.x.Len() != 0 {
						t.Fatalf("size %d, %s: Take = %d, %v, Len %d", size, what, n, is, b.x.Len())
					}
				}
			}
			none("new")
			b.offer(upTo(5, size)...)
			b.take(size)
			none("all taken")
			b.offer(upTo(9, size)...)
			b.drain()
			none("drained")
			b.offer(upTo(20, size)...)
			holds(t, "behind Takes of none", b.x, upTo(20, size))
		}
	}
}

// P12.2: Take of a ring that holds one, some, and as many as it may: the first; what it leaves keeps its order.
func TestTake(t *testing.T) {
	for _, size := range sizes() {
		for by := range size + 1 {
			for count := 1; count <= size; count++ {
				for taken := 1; taken <= count; taken++ {
					x := turned(t, size, by).x
					for _, n := range upTo(30, count) {
						x.Offer(n)
					}
					for i := range taken {
						if n, is := x.Take(); n != 30+i || !is || x.Len() != count-i-1 {
							t.Fatalf("size %d, turned by %d: Take number %d of %d = %d, %v, Len %d", size, by, i+1, count, n, is, x.Len())
						}
					}
					if all := x.Drain(); !slices.Equal(all, upTo(30+taken, count-taken)) {
						t.Fatalf("size %d, turned by %d: %d of %d taken leave %v", size, by, taken, count, all)
					}
				}
			}
		}
	}
}

// P12.2, P12.3: Offer behind Takes from a full ring, and Takes behind it, until the beginning has gone round some times; so many at once.
func TestGoesRound(t *testing.T) {
	for _, size := range append(sizes(), api.MaxRing) {
		for _, at := range []int{1, size/2 + 1, size} {
			b := newBoth(t, size)
			b.offer(upTo(0, size)...)
			next := size
			for next < 4*size+3*at {
				for i := range at {
					n, is := b.x.Take()
					if want := next - size + i; n != want || !is || b.x.Len() != size-i-1 {
						t.Fatalf("size %d, %d at once: Take = %d, %v, want %d; Len %d", size, at, n, is, want, b.x.Len())
					}
				}
				for range at {
					if !b.x.Offer(next) {
						t.Fatalf("size %d, %d at once: Offer(%d) is refused", size, at, next)
					}
					next++
				}
				if b.x.Offer(-1) {
					t.Fatalf("size %d, %d at once: Offer to a full one is taken", size, at)
				}
			}
			holds(t, "gone round", b.x, upTo(next-size, size))
		}
	}
}

// P12.2: Drain of a ring that is empty, holds some, is full, or whose numbers lie round the end: all in order. It is empty then, and has room for as many as ever.
func TestDrain(t *testing.T) {
	for _, size := range sizes() {
		for by := range 2*size + 1 {
			for count := range size + 1 {
				x := turned(t, size, by).x
				for round := range 3 {
					want := upTo(100*round+1, count)
					for _, n := range want {
						x.Offer(n)
					}
					if all := x.Drain(); !slices.Equal(all, want) || x.Len() != 0 || x.Lost() != 0 {
						t.Fatalf("size %d, turned by %d: Drain of %d = %v, Len %d, Lost %d", size, by, count, all, x.Len(), x.Lost())
					}
					if all := x.Drain(); len(all) != 0 || x.Len() != 0 {
						t.Fatalf("size %d, turned by %d: Drain of none = %v, Len %d", size, by, all, x.Len())
					}
				}
				for i, n := range upTo(-9, size+1) {
					if x.Offer(n) != (i < size) {
						t.Fatalf("size %d: Offer number %d behind Drain", size, i+1)
					}
				}
				holds(t, "behind Drain", x, upTo(-9, size))
			}
		}
	}
}

// P12.2: Drain at MaxRing, with so many ahead of the end and the others round it.
func TestDrainOfMaxRing(t *testing.T) {
	for _, by := range []int{0, 1, 2, 1000, api.MaxRing / 2, api.MaxRing - 1, api.MaxRing, api.MaxRing + 1} {
		for _, count := range []int{0, 1, 2, api.MaxRing / 2, api.MaxRing - 1, api.MaxRing} {
			b := turned(t, api.MaxRing, by)
			b.offer(upTo(7, count)...)
			if all := b.drain(); !slices.Equal(all, upTo(7, count)) {
				t.Errorf("turned by %d: Drain of %d = %v and so on", by, count, few(all))
			}
			b.offer(upTo(9, api.MaxRing+1)...)
			b.take(api.MaxRing + 1)
		}
	}
}

// P12.1: Lost counts each Offer that told false, and none else; neither Take nor Drain changes it, nor what is offered behind them.
func TestLost(t *testing.T) {
	for _, size := range sizes() {
		x, lost := New(size), 0
		is := func(what string) {
			t.Helper()
			if x.Lost() != lost {
				t.Fatalf("size %d, %s: Lost %d, want %d", size, what, x.Lost(), lost)
			}
		}
		for round := range 6 {
			for range size {
				x.Offer(round)
				is("held")
			}
			for range round {
				x.Offer(round)
				lost++
				is("refused")
			}
			x.Take()
			is("taken")
			x.Offer(3)
			is("held behind a Take")
			x.Drain()
			is("drained")
			x.Drain()
			x.Take()
			is("asked for none")
		}
		if lost != 15 {
			t.Errorf("size %d: %d were refused, want 15", size, lost)
		}
	}
}

// scribble writes over a list, and its spare room.
func scribble(list []int) {
	list = list[:cap(list)]
	for i := range list {
		list[i] = -77
	}
}

// W6: the lists that Drain answers share no memory with the ring, nor with one another, their spare room neither.
func TestDrainedListsAreApart(t *testing.T) {
	for _, size := range sizes() {
		for by := range size + 1 {
			for count := range size + 1 {
				b := turned(t, size, by)
				var lists [][]int
				for round := range 3 {
					b.offer(upTo(10*round, count)...)
					lists = append(lists, b.drain())
				}
				// What is offered lies where the drained lay; they stay as they were.
				b.offer(upTo(1000, size)...)
				for round, list := range lists {
					if !slices.Equal(list, upTo(10*round, count)) {
						t.Fatalf("size %d, turned by %d: the list %d is %v now", size, by, round, list)
					}
				}
				scribble(lists[1])
				if !slices.Equal(lists[0], upTo(0, count)) || !slices.Equal(lists[2], upTo(20, count)) {
					t.Fatalf("size %d, turned by %d: written over the second, the others are %v, %v", size, by, lists[0], lists[2])
				}
				scribble(lists[0])
				scribble(lists[2])
				holds(t, "lists written over", b.x, upTo(1000, size))
				b.x.Offer(1)
				last := b.x.Drain()
				scribble(last)
				holds(t, "the last written over", b.x, nil)
			}
		}
	}
}

// P12.1: rings share nothing, be they made alike.
func TestRingsAreApart(t *testing.T) {
	for _, size := range sizes() {
		a, b := newBoth(t, size), newBoth(t, size)
		a.offer(upTo(1, size+2)...)
		b.same("the other one")
		b.offer(upTo(50, size+1)...)
		b.take(1)
		b.offer(90)
		a.same("the one")
		a.take(size)
		b.same("the other one, behind Takes")
		a.offer(upTo(70, size)...)
		b.drain()
		a.same("the one, behind a Drain")
		holds(t, "the one", a.x, upTo(70, size))
		holds(t, "the other one", b.x, nil)
	}
}

// book writes down what a ring was offered, what it took of that, and what it gave out again.
type book struct {
	x      *Ring
	offers int
	kept   []int
	gone   []int
}

// call does one of the ring's calls: an Offer of another number each time, a Take, or a Drain.
func (k *book) call(do int) {
	switch do {
	case 0:
		k.offers++
		if k.x.Offer(k.offers) {
			k.kept = append(k.kept, k.offers)
		}
	case 1:
		if n, is := k.x.Take(); is {
			k.gone = append(k.gone, n)
		}
	default:
		k.gone = append(k.gone, k.x.Drain()...)
	}
}

// inOrder tells whether what is gone is what was kept, in its order.
func (k *book) inOrder() bool {
	return len(k.gone) <= len(k.kept) && slices.Equal(k.gone, k.kept[:len(k.gone)])
}

// adds tells whether what was offered is taken, held, or lost, each once.
func (k *book) adds() bool {
	return k.offers == len(k.gone)+k.x.Len()+k.x.Lost() && k.offers == len(k.kept)+k.x.Lost()
}

// P12.3, P12.4: counted behind each call of long rows of them, in which offers, or takes, are the more by turns.
func TestTakenHeldOrLost(t *testing.T) {
	for _, size := range []int{1, 2, 4, 8, 64, 512} {
		for _, seed := range testkeys.Seeds() {
			k, next := &book{x: New(size)}, chance(seed)
			for i := range 12 * (size + 20) {
				offers := 3 + 4*(i/(2*size+5)%2)
				switch do := next(10); {
				case do < offers:
					k.call(0)
				case do < 9 || next(size) > 0:
					k.call(1)
				default:
					k.call(2)
				}
				if !k.adds() {
					t.Fatalf("size %d, call %d: %d offered, %d kept, %d gone, Len %d, Lost %d", size, i, k.offers, len(k.kept), len(k.gone), k.x.Len(), k.x.Lost())
				}
				if n := len(k.gone); n > len(k.kept) || n > 0 && k.gone[n-1] != k.kept[n-1] {
					t.Fatalf("size %d, call %d: the last that is gone is not the one", size, i)
				}
			}
			if k.call(2); !k.inOrder() || len(k.gone) != len(k.kept) || !k.adds() {
				t.Fatalf("size %d: %d are gone of %d that were kept, or in another order", size, len(k.gone), len(k.kept))
			}
		}
	}
}

// chance is a row of numbers that looks like chance, and is the same each time: each from 0 to one below what it is asked for.
func chance(seed int) func(int) int {
	word := uint64(seed)
	return func(k int) int {
		word = word*6364136223846793005 + 1442695040888963407
		return int(word >> 33 % uint64(k))
	}
}

// P12.1 to P12.4: every row of nine calls on small rings.
func TestEveryRowOfCalls(t *testing.T) {
	const calls, length = 3, 9
	rows := 1
	for range length {
		rows *= calls
	}
	for _, size := range []int{1, 2, 4} {
		for row := range rows {
			b, left := newBoth(t, size), row
			k := &book{x: New(size)}
			for i := range length {
				do := left % calls
				left /= calls
				switch do {
				case 0:
					b.offer(i)
				case 1:
					b.take(1)
				default:
					b.drain()
				}
				if k.call(do); !k.adds() || !k.inOrder() {
					t.Fatalf("size %d, row %d: offered %d, kept %v, gone %v, Len %d, Lost %d", size, row, k.offers, k.kept, k.gone, k.x.Len(), k.x.Lost())
				}
			}
			b.drain()
		}
	}
}

// P12.1 to P12.4: a ring goes with the plain one through long rows of calls, of keys that testkeys gives.
func TestAsThePlainOne(t *testing.T) {
	for _, size := range []int{1, 2, 4, 8, 32, 128} {
		for _, seed := range testkeys.Seeds() {
			b, next := newBoth(t, size), chance(seed)
			for i := range 3000 {
				offers := 3 + 4*(i/(3*size)%2)
				switch do := next(10); {
				case do < offers:
					b.offer(testkeys.At(i))
				case do < 9 || next(size) > 0:
					b.take(1)
				default:
					b.drain()
				}
			}
			b.drain()
		}
	}
}

// P12.1: what asks only changes nothing, as often as it is asked.
func TestAskingChangesNothing(t *testing.T) {
	for _, size := range sizes() {
		for by := range size + 1 {
			b := turned(t, size, by)
			b.offer(upTo(1, size+2)...)
			for range 5 {
				b.x.Len()
				b.x.Size()
				b.x.Lost()
				b.same("asked")
			}
			b.drain()
		}
	}
}
