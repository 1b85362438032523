package writes

import (
	"errors"
	"slices"
	"testing"

	"pantry/api"
	"pantry/testkeys"
)

// plain is the chapter's buffer in its own words: the events that it holds, in order, and for how many more room was asked.
type plain struct {
	size     int
	held     []api.Event
	reserved int
}

func (p *plain) reserve() error {
	if len(p.held)+p.reserved == p.size {
		return &api.Fault{Err: api.ErrFull, Key: len(p.held), Much: p.reserved}
	}
	p.reserved++
	return nil
}

func (p *plain) commit(e api.Event) api.Errno {
	if p.reserved == 0 {
		return api.ErrNone
	}
	p.reserved--
	p.held = append(p.held, e)
	return api.OK
}

func (p *plain) cancel() api.Errno {
	if p.reserved == 0 {
		return api.ErrNone
	}
	p.reserved--
	return api.OK
}

func (p *plain) take() (api.Event, bool) {
	if len(p.held) == 0 {
		return api.Event{}, false
	}
	e := p.held[0]
	p.held = slices.Clone(p.held[1:])
	return e, true
}

// weight is the sum anew each time: 0 of those below 0, 2^31 of those above it.
func (p *plain) weight() int {
	sum := 0
	for _, e := range p.held {
		switch {
		case e.Weight > 2147483648:
			sum += 2147483648
		case e.Weight > 0:
			sum += e.Weight
		}
	}
	return sum
}

// both are a buffer and a plain one that are handed the same calls; each call is held to what the plain one answers, and so is what the buffer tells behind it.
type both struct {
	t *testing.T
	x *Buffer
	p *plain
}

// newBoth are both, of a size that is a power of two.
func newBoth(t *testing.T, size int) both {
	t.Helper()
	b := both{t, New(size), &plain{size: size}}
	b.same("New")
	return b
}

func (b both) same(what string) {
	b.t.Helper()
	n, reserved, size, weight := b.x.Len(), b.x.Reserved(), b.x.Size(), b.x.Weight()
	if n != len(b.p.held) || reserved != b.p.reserved || size != b.p.size || weight != b.p.weight() {
		b.t.Fatalf("%s: Len %d, Reserved %d, Size %d, Weight %d, want %d, %d, %d, %d",
			what, n, reserved, size, weight, len(b.p.held), b.p.reserved, b.p.size, b.p.weight())
	}
	if n < 0 || reserved < 0 || n+reserved > size {
		b.t.Fatalf("%s: Len %d and Reserved %d are more than Size %d", what, n, reserved, size)
	}
}

// reserve reserves so many times; what is told is nil, or one Fault with all that it tells.
func (b both) reserve(times int) {
	b.t.Helper()
	for range times {
		got, want := b.x.Reserve(), b.p.reserve()
		if !alike(got, want) {
			b.t.Fatalf("size %d: Reserve = %v, want %v", b.p.size, got, want)
		}
		b.same("Reserve")
	}
}

func (b both) commit(events ...api.Event) {
	b.t.Helper()
	for _, e := range events {
		got, want := b.x.Commit(e), b.p.commit(e)
		if got != want {
			b.t.Fatalf("size %d: Commit(%v) = %v, want %v", b.p.size, e, int(got), int(want))
		}
		b.same("Commit")
	}
}

func (b both) cancel(times int) {
	b.t.Helper()
	for range times {
		if got, want := b.x.Cancel(), b.p.cancel(); got != want {
			b.t.Fatalf("size %d: Cancel = %v, want %v", b.p.size, int(got), int(want))
		}
		b.same("Cancel")
	}
}

func (b both) take(times int) {
	b.t.Helper()
	for range times {
		e, is := b.x.Take()
		if wantE, wantIs := b.p.take(); e != wantE || is != wantIs {
			b.t.Fatalf("size %d: Take = %v, %v, want %v, %v", b.p.size, e, is, wantE, wantIs)
		}
		b.same("Take")
	}
}

// put reserves room for each event and commits it.
func (b both) put(events ...api.Event) {
	b.t.Helper()
	for _, e := range events {
		b.reserve(1)
		b.commit(e)
	}
}

// alike tells whether two errors are none, or Faults that tell the same.
func alike(a, b error) bool {
	if a == nil || b == nil {
		return a == b
	}
	var f, g *api.Fault
	return errors.As(a, &f) && errors.As(b, &g) && *f == *g
}

// told tells that an error is Wrap of ErrFull, that Len and that Reserved.
func told(t *testing.T, what string, err error, held, reserved int) {
	t.Helper()
	want := api.Fault{Err: api.ErrFull, Key: held, Much: reserved}
	f, is := err.(*api.Fault)
	if !is || f == nil || *f != want {
		t.Fatalf("%s: %v, want %v", what, err, want.Error())
	}
	if !errors.Is(err, api.ErrFull) || api.Number(err) != api.ErrFull {
		t.Fatalf("%s: %v is not ErrFull", what, err)
	}
}

// event is the one of a number: no two numbers have the same, and none is zero.
func event(n int) api.Event {
	return api.Event{Do: 1 + n%4, Node: n, Key: -n - 1, Weight: n % 10}
}

// upTo are so many events, from the one of a number on.
func upTo(first, count int) []api.Event {
	var all []api.Event
	for i := range count {
		all = append(all, event(first+i))
	}
	return all
}

// ends are numbers at and around 0, and at both ends.
func ends() []int { return []int{api.MinInt, -1, 0, 1, api.MaxInt} }

// sizes are those that a test tries where every number of held and reserved is tried, too.
func sizes() []int { return []int{1, 2, 4, 8, 16} }

// filled are both, so many events of which are held, numbered from 0 on, while room is reserved for so many.
func filled(t *testing.T, size, held, reserved int) both {
	t.Helper()
	b := newBoth(t, size)
	b.put(upTo(0, held)...)
	b.reserve(reserved)
	return b
}

// holds tells that a buffer holds those events, in that order, and none else; they are taken by that.
func holds(t *testing.T, what string, x *Buffer, want []api.Event) {
	t.Helper()
	if x.Len() != len(want) {
		t.Fatalf("%s: Len %d, want %d", what, x.Len(), len(want))
	}
	for _, w := range want {
		if e, is := x.Take(); e != w || !is {
			t.Fatalf("%s: Take = %v, %v, want %v", what, e, is, w)
		}
	}
	if e, is := x.Take(); e != (api.Event{}) || is || x.Len() != 0 || x.Weight() != 0 {
		t.Fatalf("%s: Take of none = %v, %v, Len %d, Weight %d", what, e, is, x.Len(), x.Weight())
	}
}

// isNew tells that a buffer of that size holds none, that none is reserved in it, and that it has room for as many as its size.
func isNew(t *testing.T, size int, x *Buffer, want int) {
	t.Helper()
	if x.Size() != want || x.Len() != 0 || x.Reserved() != 0 || x.Weight() != 0 {
		t.Fatalf("New(%d): Size %d, Len %d, Reserved %d, Weight %d, want %d, 0, 0, 0",
			size, x.Size(), x.Len(), x.Reserved(), x.Weight(), want)
	}
	if e, is := x.Take(); e != (api.Event{}) || is {
		t.Fatalf("New(%d): Take = %v, %v", size, e, is)
	}
	if a, b := x.Commit(event(1)), x.Cancel(); a != api.ErrNone || b != api.ErrNone {
		t.Fatalf("New(%d): Commit = %d, Cancel = %d, want ErrNone", size, a, b)
	}
	for i := range want {
		if err := x.Reserve(); err != nil || x.Reserved() != i+1 {
			t.Fatalf("New(%d): Reserve number %d = %v, Reserved %d", size, i+1, err, x.Reserved())
		}
	}
	told(t, "New, then all reserved", x.Reserve(), 0, want)
	if x.Size() != want || x.Len() != 0 || x.Reserved() != want || x.Weight() != 0 {
		t.Fatalf("New(%d), all reserved: Size %d, Len %d, Reserved %d, Weight %d", size, x.Size(), x.Len(), x.Reserved(), x.Weight())
	}
}

// P14.1: sizes at, beside and beyond both ends.
func TestNew(t *testing.T) {
	for _, c := range []struct{ size, want int }{
		{api.MinInt, 1}, {api.MinInt + 1, 1}, {-4096, 1}, {-2, 1}, {-1, 1}, {0, 1}, {1, 1}, {2, 2}, {3, 4}, {4, 4}, {5, 8},
		{1000, 1024}, {2048, 2048}, {2049, 4096}, {4095, 4096}, {4096, 4096}, {4097, 4096}, {8192, 4096},
		{1 << 32, 4096}, {1<<32 + 1, 4096}, {1 << 62, 4096}, {api.MaxInt - 1, 4096}, {api.MaxInt, 4096},
	} {
		x := New(c.size)
		isNew(t, c.size, x, c.want)
		for i := range c.want {
			if e := x.Commit(event(i)); e != api.OK {
				t.Fatalf("New(%d): Commit number %d = %d", c.size, i+1, e)
			}
		}
		told(t, "New, then all held", x.Reserve(), c.want, 0)
		holds(t, "New", x, upTo(0, c.want))
	}
}

// P14.1: the size is the least power of two that is enough, at each size up to MaxRing.
func TestNewOfEverySize(t *testing.T) {
	for size := -3; size <= api.MaxRing+3; size++ {
		want := 1
		for want < size && want < 4096 {
			want += want
		}
		x := New(size)
		if x.Size() != want || x.Len() != 0 || x.Reserved() != 0 || x.Weight() != 0 {
			t.Fatalf("New(%d): Size %d, Len %d, Reserved %d, Weight %d, want %d, 0, 0, 0", size, x.Size(), x.Len(), x.Reserved(), x.Weight(), want)
		}
	}
}

// The chapter's example.
func TestExample(t *testing.T) {
	for _, e := range []api.Event{event(5), {}, {Do: api.DoAdd, Node: 7, Weight: 5}} {
		x := New(1)
		if err := x.Reserve(); err != nil {
			t.Errorf("Reserve = %v", err)
		}
		told(t, "the second Reserve", x.Reserve(), 0, 1)
		if got := x.Commit(e); got != api.OK {
			t.Errorf("Commit = %d", got)
		}
		told(t, "the third Reserve", x.Reserve(), 1, 0)
		if got, is := x.Take(); got != e || !is {
			t.Errorf("Take = %v, %v, want %v", got, is, e)
		}
		if err := x.Reserve(); err != nil {
			t.Errorf("the last Reserve = %v", err)
		}
	}
}

// P14.2: Reserve until it tells ErrFull, with none committed, all of them, and each number between. The error tells Len and Reserved as they are then, and nothing has changed.
func TestReserveUntilFull(t *testing.T) {
	for _, size := range sizes() {
		for held := range size + 1 {
			b := filled(t, size, held, 0)
			for i := range size - held {
				if err := b.x.Reserve(); err != nil || b.p.reserve() != nil || b.x.Reserved() != i+1 || b.x.Len() != held {
					t.Fatalf("size %d, %d held: Reserve number %d = %v, Reserved %d", size, held, i+1, err, b.x.Reserved())
				}
				b.same("Reserve")
			}
			for range 3 {
				told(t, "full", b.x.Reserve(), held, size-held)
				b.same("a Reserve that is refused")
			}
			b.commit(upTo(held, size-held)...)
			holds(t, "behind refused Reserves", b.x, upTo(0, size))
		}
	}
}

// P14.2: the same at MaxRing.
func TestReserveUntilMaxRing(t *testing.T) {
	for _, held := range []int{0, 1, 2, 2047, 2048, 2049, 4094, 4095, 4096} {
		x := New(api.MaxRing)
		for i := range held {
			if err, e := x.Reserve(), x.Commit(event(i)); err != nil || e != api.OK {
				t.Fatalf("number %d: Reserve = %v, Commit = %d", i, err, e)
			}
		}
		for i := range 4096 - held {
			if err := x.Reserve(); err != nil || x.Reserved() != i+1 || x.Len() != held {
				t.Fatalf("%d held: Reserve number %d = %v, Reserved %d", held, i+1, err, x.Reserved())
			}
		}
		told(t, "full", x.Reserve(), held, 4096-held)
		told(t, "full", x.Reserve(), held, 4096-held)
		if x.Len() != held || x.Reserved() != 4096-held {
			t.Fatalf("Len %d, Reserved %d, want %d, %d", x.Len(), x.Reserved(), held, 4096-held)
		}
		holds(t, "full", x, upTo(0, held))
	}
}

// P14.2: Reserve of a full buffer behind each kind of call that does not make room, and behind each that does.
func TestFullAndNotAnyMore(t *testing.T) {
	for _, size := range sizes() {
		for held := range size + 1 {
			b := filled(t, size, held, size-held)
			told(t, "full", b.x.Reserve(), held, size-held)
			if held < size {
				b.commit(event(held))
				told(t, "full behind a Commit", b.x.Reserve(), held+1, size-held-1)
				b = filled(t, size, held, size-held)
				b.cancel(1)
				b.reserve(1)
				told(t, "full behind a Cancel and a Reserve", b.x.Reserve(), held, size-held)
			}
			if held > 0 {
				b.take(1)
				b.reserve(1)
				told(t, "full behind a Take and a Reserve", b.x.Reserve(), held-1, size-held+1)
			}
		}
	}
}

// P14.2: errors are apart: what an earlier one tells does not change, and one that is written over changes neither the buffer nor the others.
func TestErrorsAreApart(t *testing.T) {
	x := New(2)
	x.Reserve()
	x.Reserve()
	first, again := x.Reserve(), x.Reserve()
	x.Commit(event(1))
	second := x.Reserve()
	x.Commit(event(2))
	third := x.Reserve()
	told(t, "the first", first, 0, 2)
	told(t, "the first again", again, 0, 2)
	told(t, "the second", second, 1, 1)
	told(t, "the third", third, 2, 0)
	var f *api.Fault
	if !errors.As(first, &f) {
		t.Fatal("no Fault")
	}
	*f = api.Fault{Err: api.ErrDead, Key: -1, Much: -1}
	told(t, "the first again, the first written over", again, 0, 2)
	told(t, "the third, the first written over", third, 2, 0)
	told(t, "one more", x.Reserve(), 2, 0)
	holds(t, "errors written over", x, []api.Event{event(1), event(2)})
}

// P14.2: Commit and Cancel with none reserved, at first and again when all that were reserved have been committed, cancelled, or some of either: ErrNone, and nothing changes.
func TestNoneReserved(t *testing.T) {
	for _, size := range sizes() {
		b := newBoth(t, size)
		none := func(what string) {
			t.Helper()
			for _, e := range []api.Event{event(900), {}, {Weight: api.MaxInt}, {Weight: api.MinInt}} {
				if got := b.x.Commit(e); got != api.ErrNone {
					t.Fatalf("size %d, %s: Commit(%v) = %d", size, what, e, got)
				}
				b.same(what)
				if got := b.x.Cancel(); got != api.ErrNone {
					t.Fatalf("size %d, %s: Cancel = %d", size, what, got)
				}
				b.same(what)
			}
		}
		none("new")
		b.reserve(size)
		b.cancel(size)
		none("all cancelled")
		b.reserve(size)
		b.commit(upTo(3, size)...)
		none("all committed")
		b.take(1)
		none("one taken")
		b.take(size)
		none("all taken")
		b.reserve(size)
		b.cancel(size / 2)
		b.commit(upTo(20, size-size/2)...)
		none("some cancelled, some committed")
		// What was refused has neither given nor taken room.
		b.reserve(size/2 + 1)
		b.commit(upTo(40, size/2)...)
		none("full")
		b.take(size + 1)
		none("emptied")
	}
}

// P14.1, P14.2: what Weight tells of an event at and beside the ends of weights; Take tells the event as it was committed, whatever its fields are.
func TestWeightOfOne(t *testing.T) {
	for _, c := range []struct{ weight, want int }{
		{api.MinInt, 0}, {api.MinInt + 1, 0}, {-1 << 31, 0}, {-2, 0}, {-1, 0}, {0, 0}, {1, 1}, {2, 2}, {1000, 1000},
		{1<<31 - 2, 1<<31 - 2}, {1<<31 - 1, 1<<31 - 1}, {1 << 31, 1 << 31}, {1<<31 + 1, 1 << 31}, {1 << 32, 1 << 31},
		{1<<32 + 1, 1 << 31}, {1 << 62, 1 << 31}, {api.MaxInt - 1, 1 << 31}, {api.MaxInt, 1 << 31},
	} {
		for _, n := range append(ends(), api.DoAdd, api.DoRead, api.DoUpdate, api.DoRemove, 5) {
			for _, e := range []api.Event{{Weight: c.weight}, {Do: n, Weight: c.weight}, {Node: n, Weight: c.weight}, {Key: n, Weight: c.weight}, {Do: n, Node: n, Key: n, Weight: c.weight}} {
				x := New(1)
				x.Reserve()
				if x.Weight() != 0 {
					t.Fatalf("reserved: Weight %d", x.Weight())
				}
				if got := x.Commit(e); got != api.OK || x.Len() != 1 || x.Reserved() != 0 || x.Weight() != c.want {
					t.Fatalf("Commit(%v) = %d, Len %d, Reserved %d, Weight %d, want %d", e, got, x.Len(), x.Reserved(), x.Weight(), c.want)
				}
				if got, is := x.Take(); got != e || !is || x.Len() != 0 || x.Weight() != 0 {
					t.Fatalf("Take = %v, %v, want %v; Len %d, Weight %d", got, is, e, x.Len(), x.Weight())
				}
			}
		}
	}
}

// P14.1, P14.2: the zero event is held as any other, alone and between others.
func TestZeroEvent(t *testing.T) {
	for _, size := range sizes() {
		b := newBoth(t, size)
		b.put(make([]api.Event, size)...)
		if b.x.Len() != size || b.x.Weight() != 0 {
			t.Fatalf("size %d: Len %d, Weight %d", size, b.x.Len(), b.x.Weight())
		}
		told(t, "full of zero events", b.x.Reserve(), size, 0)
		for i := range size {
			if e, is := b.x.Take(); e != (api.Event{}) || !is || b.x.Len() != size-i-1 {
				t.Fatalf("size %d: Take number %d = %v, %v, Len %d", size, i+1, e, is, b.x.Len())
			}
		}
		holds(t, "all taken", b.x, nil)
	}
	b := newBoth(t, 4)
	all := []api.Event{event(3), {}, event(4), {}}
	b.put(all...)
	holds(t, "between others", b.x, all)
}

// P14.1: the sum of weights of all kinds, behind each Commit and each Take, and what it is of as many as may be of the greatest.
func TestSumOfWeights(t *testing.T) {
	weights := []int{5, api.MinInt, 1 << 31, -1, 1<<31 - 1, 0, 1<<31 + 1, 1, api.MaxInt, 7}
	sums := []int{5, 5, 2147483653, 2147483653, 4294967300, 4294967300, 6442450948, 6442450949, 8589934597, 8589934604}
	x := New(10)
	for i, w := range weights {
		x.Reserve()
		x.Commit(api.Event{Weight: w})
		if x.Weight() != sums[i] {
			t.Errorf("Weight %d behind Commit number %d, want %d", x.Weight(), i+1, sums[i])
		}
	}
	for i, w := range weights {
		if e, is := x.Take(); e != (api.Event{Weight: w}) || !is {
			t.Errorf("Take = %v, %v, want a Weight of %d", e, is, w)
		}
		if want := sums[9] - sums[i]; x.Weight() != want {
			t.Errorf("Weight %d behind Take number %d, want %d", x.Weight(), i+1, want)
		}
	}
	for _, w := range []int{1 << 31, 1<<31 + 1, api.MaxInt} {
		y := New(api.MaxRing)
		for range 4096 {
			y.Reserve()
			y.Commit(api.Event{Weight: w})
		}
		if y.Weight() != 1<<43 {
			t.Errorf("Weight %d of 4096 of %d, want 2^43", y.Weight(), w)
		}
	}
}

// P14.2: Take with none held: a zero and false, also while some, or all, are reserved, at first and again when all were taken; nothing changes.
func TestTakeOfNone(t *testing.T) {
	for _, size := range sizes() {
		for reserved := range size + 1 {
			for _, before := range []int{0, 1, size, 2 * size} {
				b := newBoth(t, size)
				for i := range before {
					b.put(event(i))
					b.take(1)
				}
				b.reserve(reserved)
				for range 3 {
					if e, is := b.x.Take(); e != (api.Event{}) || is {
						t.Fatalf("size %d, %d reserved: Take = %v, %v", size, reserved, e, is)
					}
					b.same("Take of none")
				}
				b.commit(upTo(70, reserved)...)
				holds(t, "behind Takes of none", b.x, upTo(70, reserved))
			}
		}
	}
}

// P14.2, P14.3: Take between Commits, again and again, past many times Size of them; so many are held meanwhile.
func TestTakesBetweenCommits(t *testing.T) {
	for _, size := range append(sizes(), 64, api.MaxRing) {
		for _, held := range []int{0, 1, size / 2, size - 1} {
			if held >= size {
				continue
			}
			x := New(size)
			for i := range held {
				if err, e := x.Reserve(), x.Commit(event(i)); err != nil || e != api.OK {
					t.Fatalf("size %d: Reserve = %v, Commit = %d", size, err, e)
				}
			}
			sum := x.Weight()
			for i := range 5*size + 100 {
				if err := x.Reserve(); err != nil || x.Len() != held || x.Reserved() != 1 || x.Weight() != sum {
					t.Fatalf("size %d, round %d: Reserve = %v, Len %d, Reserved %d, Weight %d", size, i, err, x.Len(), x.Reserved(), x.Weight())
				}
				sum += event(held + i).Weight
				if e := x.Commit(event(held + i)); e != api.OK || x.Len() != held+1 || x.Reserved() != 0 || x.Weight() != sum {
					t.Fatalf("size %d, round %d: Commit = %d, Len %d, Reserved %d, Weight %d", size, i, e, x.Len(), x.Reserved(), x.Weight())
				}
				sum -= event(i).Weight
				if e, is := x.Take(); e != event(i) || !is || x.Len() != held || x.Reserved() != 0 || x.Weight() != sum {
					t.Fatalf("size %d, round %d: Take = %v, %v, Len %d, Reserved %d, Weight %d", size, i, e, is, x.Len(), x.Reserved(), x.Weight())
				}
			}
			holds(t, "past many times Size", x, upTo(5*size+100, held))
		}
	}
}

// P14.2, P14.3: Take while room is reserved, and Commit behind it: what comes later is held behind what came earlier, and what was taken makes room.
func TestTakeWhileReserved(t *testing.T) {
	for _, size := range sizes() {
		for held := range size + 1 {
			for taken := range held + 1 {
				b := filled(t, size, held, size-held)
				b.take(taken)
				b.commit(upTo(held, size-held)...)
				b.reserve(taken)
				told(t, "full again", b.x.Reserve(), size-taken, taken)
				b.commit(upTo(size, taken)...)
				told(t, "full of events", b.x.Reserve(), size, 0)
				holds(t, "taken while reserved", b.x, upTo(taken, size))
			}
		}
	}
}

// P14.3: who has reserved can commit, as many as did, whatever is taken meanwhile and however often others are refused.
func TestWhoReservedCanCommit(t *testing.T) {
	for _, size := range sizes() {
		for held := range size {
			for reserved := 1; reserved <= size-held; reserved++ {
				b := filled(t, size, held, reserved)
				for i := range reserved {
					if held+reserved == size {
						told(t, "full", b.x.Reserve(), held+i, reserved-i)
					}
					if got, want := b.x.Commit(event(held+i)), b.p.commit(event(held+i)); got != api.OK || want != api.OK {
						t.Fatalf("size %d, %d held: Commit number %d of %d = %d", size, held, i+1, reserved, got)
					}
					b.same("Commit")
				}
				if got := b.x.Commit(event(99)); got != api.ErrNone {
					t.Fatalf("size %d: one Commit more than were reserved = %d", size, got)
				}
				b.same("one Commit more")
				holds(t, "committed", b.x, upTo(0, held+reserved))
			}
		}
	}
}

// P14.4: Cancel and then Reserve in a buffer that was full: what is cancelled makes room, for as many, and what is held stays.
func TestCancelMakesRoom(t *testing.T) {
	for _, size := range sizes() {
		for held := range size {
			for count := 1; count <= size-held; count++ {
				b := filled(t, size, held, size-held)
				told(t, "full", b.x.Reserve(), held, size-held)
				for i := range count {
					if e := b.x.Cancel(); e != api.OK || b.p.cancel() != api.OK || b.x.Reserved() != size-held-i-1 {
						t.Fatalf("size %d, %d held: Cancel number %d = %d, Reserved %d", size, held, i+1, e, b.x.Reserved())
					}
					b.same("Cancel")
				}
				for i := range count {
					if err := b.x.Reserve(); err != nil || b.p.reserve() != nil {
						t.Fatalf("size %d, %d held: Reserve number %d behind %d Cancels = %v", size, held, i+1, count, err)
					}
					b.same("Reserve")
				}
				told(t, "full again", b.x.Reserve(), held, size-held)
				b.commit(upTo(held, size-held)...)
				holds(t, "behind Cancels", b.x, upTo(0, size))
			}
		}
	}
}

// P14.4: Cancel and Reserve by turns, many times Size of them, leave what is held and make no more room than there was.
func TestCancelAgainAndAgain(t *testing.T) {
	for _, size := range sizes() {
		for held := range size {
			b := filled(t, size, held, size-held)
			for range 5*size + 20 {
				b.cancel(1)
				b.reserve(2)
			}
			b.cancel(size + 1)
			b.reserve(size + 1)
			told(t, "full", b.x.Reserve(), held, size-held)
			holds(t, "behind many Cancels", b.x, upTo(0, held))
		}
	}
}

// P14.1: buffers share nothing, be they made alike.
func TestBuffersAreApart(t *testing.T) {
	for _, size := range sizes() {
		a, b := newBoth(t, size), newBoth(t, size)
		a.reserve(size + 1)
		b.same("the other one, behind Reserves")
		b.commit(event(1))
		b.cancel(1)
		a.commit(upTo(10, size)...)
		b.same("the other one, behind Commits")
		b.take(1)
		b.reserve(size)
		b.commit(upTo(50, size)...)
		a.same("the one, behind Commits")
		b.take(1)
		b.reserve(1)
		a.same("the one, behind a Take and a Reserve")
		b.cancel(1)
		a.reserve(1)
		a.take(size)
		b.same("the other one, behind Takes")
		holds(t, "the one", a.x, nil)
		holds(t, "the other one", b.x, upTo(51, size-1))
	}
}

// book writes down what was reserved in a buffer, what became of it, and what was taken.
type book struct {
	x                            *Buffer
	reserved, committed, cancels int
	taken                        int
}

// calls is how many kinds of calls a book knows.
const calls = 4

// call does one of the buffer's calls, and tells whether it did what it had to: the events are committed and taken by rising numbers.
func (k *book) call(do int) bool {
	waiting := k.reserved - k.committed - k.cancels
	held := k.committed - k.taken
	switch do {
	case 0:
		full := waiting+held == k.x.Size()
		if (k.x.Reserve() != nil) != full {
			return false
		}
		if !full {
			k.reserved++
		}
	case 1:
		if (k.x.Commit(event(k.committed)) == api.OK) != (waiting > 0) {
			return false
		}
		if waiting > 0 {
			k.committed++
		}
	case 2:
		if (k.x.Cancel() == api.OK) != (waiting > 0) {
			return false
		}
		if waiting > 0 {
			k.cancels++
		}
	default:
		e, is := k.x.Take()
		if is != (held > 0) || is && e != event(k.taken) {
			return false
		}
		if held > 0 {
			k.taken++
		}
	}
	return true
}

// adds tells whether what was reserved is committed, cancelled or reserved, and what was committed taken or held, each once; never are there more than Size.
func (k *book) adds() bool {
	return k.x.Reserved() == k.reserved-k.committed-k.cancels && k.x.Len() == k.committed-k.taken &&
		k.x.Len() >= 0 && k.x.Reserved() >= 0 && k.x.Len()+k.x.Reserved() <= k.x.Size()
}

// chance is a row of numbers that looks like chance, and is the same each time: each from 0 to one below what it is asked for.
func chance(seed int) func(int) int {
	word := uint64(seed)
	return func(k int) int {
		word = word*6364136223846793005 + 1442695040888963407
		return int(word >> 33 % uint64(k))
	}
}

// callOf is a kind of call picked by chance: by turns those that fill, and those that empty, are the more.
func callOf(next func(int) int, filling bool) int {
	switch do := next(20); {
	case do == 0:
		return 2
	case filling && do < 18, do < 8:
		return do % 2
	case do < 11:
		return 1
	}
	return 3
}

// P14.3, P14.4: counted behind each call of long rows of them.
func TestCountedBehindEachCall(t *testing.T) {
	for _, size := range []int{1, 2, 4, 8, 64, 512, 4096} {
		for _, seed := range testkeys.Seeds() {
			k, next := &book{x: New(size)}, chance(seed)
			full := false
			for i := range 20 * (size + 20) {
				do := callOf(next, i/(6*size+5)%2 == 0)
				if !k.call(do) || !k.adds() {
					t.Fatalf("size %d, call %d (%d): %d reserved, %d committed, %d cancelled, %d taken; Len %d, Reserved %d",
						size, i, do, k.reserved, k.committed, k.cancels, k.taken, k.x.Len(), k.x.Reserved())
				}
				full = full || k.x.Len()+k.x.Reserved() == size
			}
			if !full || k.taken == 0 || k.cancels == 0 {
				t.Errorf("size %d, seed %d: the row tries too little: full %v, %d taken, %d cancelled", size, seed, full, k.taken, k.cancels)
			}
			holds(t, "at the end", k.x, upTo(k.taken, k.committed-k.taken))
		}
	}
}

// P14.1 to P14.4: every row of eight calls on small buffers.
func TestEveryRowOfCalls(t *testing.T) {
	const length = 8
	rows := 1
	for range length {
		rows *= calls
	}
	for _, size := range []int{1, 2, 4} {
		for row := range rows {
			b, left := newBoth(t, size), row
			k := &book{x: New(size)}
			for i := range length {
				do := left % calls
				left /= calls
				switch do {
				case 0:
					b.reserve(1)
				case 1:
					b.commit(event(i))
				case 2:
					b.cancel(1)
				default:
					b.take(1)
				}
				if !k.call(do) || !k.adds() {
					t.Fatalf("size %d, row %d, call %d: Len %d, Reserved %d", size, row, i, k.x.Len(), k.x.Reserved())
				}
			}
			b.take(size + 1)
		}
	}
}

// weights are those that long rows of calls try.
func weights() []int {
	return []int{api.MinInt, -1, 0, 1, 2, 100, 1<<31 - 1, 1 << 31, 1<<31 + 1, api.MaxInt}
}

// P14.1 to P14.4: a buffer goes with the plain one through long rows of calls, of events of keys that testkeys gives and of all kinds of weights.
func TestAsThePlainOne(t *testing.T) {
	for _, size := range []int{1, 2, 4, 8, 32, 128} {
		for _, seed := range testkeys.Seeds() {
			b, next := newBoth(t, size), chance(seed)
			for i := range 3000 {
				switch callOf(next, i/(6*size+5)%2 == 0) {
				case 0:
					b.reserve(1)
				case 1:
					b.commit(api.Event{Do: next(6) - 1, Node: testkeys.At(next(90)), Key: testkeys.At(i), Weight: weights()[next(10)]})
				case 2:
					b.cancel(1)
				default:
					b.take(1)
				}
			}
			b.cancel(size)
			b.take(size + 1)
		}
	}
}

// P14.1: what asks only changes nothing, as often as it is asked.
func TestAskingChangesNothing(t *testing.T) {
	for _, size := range sizes() {
		for held := range size + 1 {
			b := filled(t, size, held, (size-held+1)/2)
			for range 5 {
				b.x.Len()
				b.x.Reserved()
				b.x.Size()
				b.x.Weight()
				b.same("asked")
			}
			holds(t, "asked", b.x, upTo(0, held))
		}
	}
}
