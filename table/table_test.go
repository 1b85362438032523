package table

import (
	"maps"
	"slices"
	"testing"

	"pantry/api"
	"pantry/testkeys"
)

// word is the word of a key as layer 1's chapter tells it.
func word(seed, key int) uint64 {
	x := uint64(key) ^ uint64(seed)*0x9E3779B97F4A7C15
	x = (x ^ x>>30) * 0xBF58476D1CE4E5B9
	x = (x ^ x>>27) * 0x94D049BB133111EB
	return x ^ x>>31
}

// bucketOf is a key's bucket of so many.
func bucketOf(seed, key, buckets int) int { return int(word(seed, key) % uint64(buckets)) }

// plain is the chapter's table in its own words: a plain map, and the keys of each bucket, new and old, in the order in which they came there.
type plain struct {
	seed    int
	entries map[int]api.Entry
	chains  [][]int
	old     [][]int
	left    int
}

func newPlain(seed int) *plain {
	return &plain{seed: seed, entries: map[int]api.Entry{}, chains: make([][]int, 8)}
}

// home is where a key's bucket is.
func (p *plain) home(key int) *[]int {
	if p.left > 0 {
		if i := bucketOf(p.seed, key, len(p.old)); i >= len(p.old)-p.left {
			return &p.old[i]
		}
	}
	return &p.chains[bucketOf(p.seed, key, len(p.chains))]
}

func (p *plain) moveFirst() {
	if p.left == 0 {
		return
	}
	first := len(p.old) - p.left
	p.left--
	for _, key := range p.old[first] {
		to := p.home(key)
		*to = append(*to, key)
	}
	p.old[first] = nil
}

func (p *plain) put(e api.Entry) (api.Entry, bool) {
	p.moveFirst()
	was, is := p.entries[e.Key]
	p.entries[e.Key] = e
	if is {
		return was, true
	}
	to := p.home(e.Key)
	*to = append(*to, e.Key)
	if p.left == 0 && len(p.entries) > len(p.chains) && len(p.chains) < 65536 {
		p.old, p.left = p.chains, len(p.chains)
		p.chains = make([][]int, 2*len(p.old))
	}
	return api.Entry{}, false
}

func (p *plain) remove(key int) (api.Entry, bool) {
	p.moveFirst()
	was, is := p.entries[key]
	if !is {
		return api.Entry{}, false
	}
	delete(p.entries, key)
	from := p.home(key)
	i := slices.Index(*from, key)
	*from = slices.Delete(*from, i, i+1)
	return was, true
}

func (p *plain) all() []api.Entry {
	var all []api.Entry
	for _, key := range slices.Sorted(maps.Keys(p.entries)) {
		all = append(all, p.entries[key])
	}
	return all
}

// both are a table and a plain one that are handed the same calls; each call is held to what the plain one answers, and so is what the table tells behind it.
type both struct {
	t *testing.T
	x *Table
	p *plain
}

func newBoth(t *testing.T, seed int) both {
	t.Helper()
	b := both{t, New(seed), newPlain(seed)}
	b.whole("New")
	return b
}

// same holds to each other what can be told fast.
func (b both) same(what string) {
	b.t.Helper()
	n, buckets, left := b.x.Len(), b.x.Buckets(), b.x.Left()
	if n != len(b.p.entries) || buckets != len(b.p.chains) || left != b.p.left {
		b.t.Fatalf("seed %d, %s: Len %d, Buckets %d, Left %d, want %d, %d, %d",
			b.p.seed, what, n, buckets, left, len(b.p.entries), len(b.p.chains), b.p.left)
	}
}

// whole holds to each other all that can be asked: all entries, and all chains, those around both ends, too.
func (b both) whole(what string) {
	b.t.Helper()
	b.same(what)
	if got, want := b.x.All(), b.p.all(); !slices.Equal(got, want) {
		b.t.Fatalf("seed %d, %s: All = %v, want %v", b.p.seed, what, got, want)
	}
	for i, want := range b.p.chains {
		if got := b.x.Chain(i); !slices.Equal(got, want) {
			b.t.Fatalf("seed %d, %s: Chain(%d) of %d = %v, want %v", b.p.seed, what, i, len(b.p.chains), got, want)
		}
	}
	n := len(b.p.chains)
	for _, i := range []int{api.MinInt, api.MinInt + 1, -n - 1, -n, -8, -1, n, n + 1, 2 * n, 1 << 32, api.MaxInt - 1, api.MaxInt} {
		if got := b.x.Chain(i); len(got) != 0 {
			b.t.Fatalf("seed %d, %s: Chain(%d) of %d = %v, want none", b.p.seed, what, i, n, got)
		}
	}
	b.same(what + ", all of it asked")
}

func (b both) put(entries ...api.Entry) {
	b.t.Helper()
	for _, e := range entries {
		got, is := b.x.Put(e)
		if want, wantIs := b.p.put(e); got != want || is != wantIs {
			b.t.Fatalf("seed %d: Put(%v) = %v, %v, want %v, %v", b.p.seed, e, got, is, want, wantIs)
		}
		b.same("Put")
		b.get(e.Key)
	}
}

func (b both) remove(keys ...int) {
	b.t.Helper()
	for _, key := range keys {
		got, is := b.x.Remove(key)
		if want, wantIs := b.p.remove(key); got != want || is != wantIs {
			b.t.Fatalf("seed %d: Remove(%d) = %v, %v, want %v, %v", b.p.seed, key, got, is, want, wantIs)
		}
		b.same("Remove")
		b.get(key)
	}
}

func (b both) get(keys ...int) {
	b.t.Helper()
	for _, key := range keys {
		got, is := b.x.Get(key)
		if want, wantIs := b.p.entries[key]; got != want || is != wantIs {
			b.t.Fatalf("seed %d: Get(%d) = %v, %v, want %v, %v", b.p.seed, key, got, is, want, wantIs)
		}
		b.same("Get")
	}
}

// left tells how many old buckets are left, of how many buckets.
func (b both) left(what string, left, buckets int) {
	b.t.Helper()
	if b.x.Left() != left || b.x.Buckets() != buckets {
		b.t.Fatalf("seed %d, %s: Left %d, Buckets %d, want %d, %d", b.p.seed, what, b.x.Left(), b.x.Buckets(), left, buckets)
	}
}

// ends are numbers at and around 0, and at both ends: seeds as well as keys.
func ends() []int { return []int{api.MinInt, -1, 0, 1, api.MaxInt} }

// entry is one of a key whose other fields tell the key, and how often it was made.
func entry(key, turn int) api.Entry {
	return api.Entry{Key: key, Value: 10*key + turn, Weight: turn + 1, Node: key + turn}
}

// upTo are entries of so many keys, from one on.
func upTo(first, count int) []api.Entry {
	var all []api.Entry
	for i := range count {
		all = append(all, entry(first+i, 0))
	}
	return all
}

// keysOf are the keys of entries, in order.
func keysOf(entries []api.Entry) []int {
	var keys []int
	for _, e := range entries {
		keys = append(keys, e.Key)
	}
	return keys
}

// filled are both, with the keys from 0 on, so many of them.
func filled(t *testing.T, seed, count int) both {
	t.Helper()
	b := newBoth(t, seed)
	b.put(upTo(0, count)...)
	return b
}

// P15.1: New of seeds at and around both ends.
func TestNew(t *testing.T) {
	for _, seed := range append(testkeys.Seeds(), ends()...) {
		x := New(seed)
		for range 2 {
			if x.Len() != 0 || x.Buckets() != 8 || x.Left() != 0 || len(x.All()) != 0 {
				t.Fatalf("New(%d): Len %d, Buckets %d, Left %d, All %v", seed, x.Len(), x.Buckets(), x.Left(), x.All())
			}
			for i := -1; i <= 8; i++ {
				if got := x.Chain(i); len(got) != 0 {
					t.Fatalf("New(%d): Chain(%d) = %v", seed, i, got)
				}
			}
			for _, key := range append(ends(), seed) {
				if e, is := x.Get(key); e != (api.Entry{}) || is {
					t.Fatalf("New(%d): Get(%d) = %v, %v", seed, key, e, is)
				}
				if e, is := x.Remove(key); e != (api.Entry{}) || is {
					t.Fatalf("New(%d): Remove(%d) = %v, %v", seed, key, e, is)
				}
			}
		}
		newBoth(t, seed)
	}
}

// The chapter's example: nine Puts of unlike keys, whatever they and the seed are.
func TestExample(t *testing.T) {
	rows := [][]int{
		{0, 1, 2, 3, 4, 5, 6, 7, 8},
		{8, 7, 6, 5, 4, 3, 2, 1, 0},
		{api.MinInt, -1, 0, 1, api.MaxInt, 2, 3, 4, 5},
		{api.MaxInt, api.MaxInt - 1, api.MinInt, api.MinInt + 1, -8, 8, 1 << 32, -1 << 32, 1 << 62},
	}
	for _, seed := range append(testkeys.Seeds(), ends()...) {
		for _, keys := range rows {
			x := New(seed)
			for i, key := range keys {
				if x.Buckets() != 8 || x.Left() != 0 || x.Len() != i {
					t.Fatalf("seed %d, ahead of Put %d: Buckets %d, Left %d, Len %d", seed, i+1, x.Buckets(), x.Left(), x.Len())
				}
				if e, is := x.Put(api.Entry{Key: key}); e != (api.Entry{}) || is {
					t.Fatalf("seed %d: Put of %d = %v, %v", seed, key, e, is)
				}
			}
			if x.Buckets() != 16 || x.Left() != 8 || x.Len() != 9 {
				t.Fatalf("seed %d: Buckets %d, Left %d, Len %d, want 16, 8, 9", seed, x.Buckets(), x.Left(), x.Len())
			}
		}
	}
}

// life is that of one key in a table that holds others, or none: never there, put, put over, removed, and put again.
func life(b both, key int) {
	b.t.Helper()
	n := b.x.Len()
	want := func(what string, got api.Entry, is bool, wantE api.Entry, wantIs bool) {
		b.t.Helper()
		if got != wantE || is != wantIs {
			b.t.Fatalf("seed %d, key %d, %s: %v, %v, want %v, %v", b.p.seed, key, what, got, is, wantE, wantIs)
		}
	}
	put := func(what string, e, was api.Entry, wasIs bool) {
		b.t.Helper()
		b.p.put(e)
		got, is := b.x.Put(e)
		want(what, got, is, was, wasIs)
		got, is = b.x.Get(key)
		want(what+", then Get", got, is, e, true)
	}
	remove := func(what string, was api.Entry, wasIs bool) {
		b.t.Helper()
		b.p.remove(key)
		got, is := b.x.Remove(key)
		want(what, got, is, was, wasIs)
		got, is = b.x.Get(key)
		want(what+", then Get", got, is, api.Entry{}, false)
	}
	e, is := b.x.Get(key)
	want("Get of a key that was never there", e, is, api.Entry{}, false)
	remove("Remove of a key that was never there", api.Entry{}, false)
	first, second, zero := entry(key, 1), entry(key, 2), api.Entry{Key: key}
	put("the first Put", first, api.Entry{}, false)
	put("a Put over it", second, first, true)
	put("a Put of no value, no weight, no node", zero, second, true)
	put("one more", zero, zero, true)
	put("the first one again", first, zero, true)
	if b.x.Len() != n+1 {
		b.t.Fatalf("seed %d, key %d: Len %d, want %d", b.p.seed, key, b.x.Len(), n+1)
	}
	b.whole("one key put")
	remove("Remove", first, true)
	remove("Remove again", api.Entry{}, false)
	put("a Put of a key that was removed", second, api.Entry{}, false)
	remove("Remove at the end", second, true)
	if b.x.Len() != n {
		b.t.Fatalf("seed %d, key %d: Len %d, want %d", b.p.seed, key, b.x.Len(), n)
	}
	b.whole("one key put and removed")
}

// P15.2: Get, Put and Remove of keys at both ends, and of others, in tables of all kinds of seeds that are empty, and that hold others, some old buckets being left or none.
func TestLifeOfOneKey(t *testing.T) {
	for _, seed := range append(testkeys.Seeds(), ends()...) {
		for _, key := range append(ends(), seed, -2, 9999, api.MinInt+1, api.MaxInt-1, 1<<32, -1<<32) {
			for _, others := range []int{0, 1, 7, 8, 9, 12, 16, 17, 33, 40} {
				b := newBoth(t, seed)
				for i := range others {
					b.put(entry(1000+i, 0))
				}
				life(b, key)
			}
		}
	}
}

// P15.2: all fields of an entry are held and told as they were put, be they such as no cache has.
func TestFieldsOfEntries(t *testing.T) {
	for _, key := range ends() {
		x := New(1)
		was, wasIs := api.Entry{}, false
		for _, n := range ends() {
			for _, e := range []api.Entry{{Key: key, Value: n}, {Key: key, Weight: n}, {Key: key, Node: n}, {Key: key, Value: n, Weight: n, Node: n}} {
				if got, is := x.Put(e); got != was || is != wasIs {
					t.Fatalf("Put(%v) = %v, %v, want %v, %v", e, got, is, was, wasIs)
				}
				if got, is := x.Get(key); got != e || !is {
					t.Fatalf("Get(%d) = %v, %v, want %v", key, got, is, e)
				}
				if all := x.All(); !slices.Equal(all, []api.Entry{e}) || x.Len() != 1 {
					t.Fatalf("All = %v, want %v; Len %d", all, e, x.Len())
				}
				was, wasIs = e, true
			}
		}
		if got, is := x.Remove(key); got != was || !is || x.Len() != 0 {
			t.Fatalf("Remove(%d) = %v, %v, want %v; Len %d", key, got, is, was, x.Len())
		}
	}
}

// P15.2: the zero entry is one of the key 0 as any other: it is there, though it looks like none.
func TestZeroEntry(t *testing.T) {
	for _, others := range []int{0, 3, 8, 9, 20} {
		for _, seed := range ends() {
			b := newBoth(t, seed)
			b.put(upTo(5, others)...)
			for i, wantIs := range []bool{false, true, true} {
				b.p.put(api.Entry{})
				if e, is := b.x.Put(api.Entry{}); e != (api.Entry{}) || is != wantIs || b.x.Len() != others+1 {
					t.Fatalf("Put %d of a zero entry = %v, %v, Len %d", i+1, e, is, b.x.Len())
				}
				if e, is := b.x.Get(0); e != (api.Entry{}) || !is {
					t.Fatalf("Get(0) = %v, %v", e, is)
				}
				b.whole("a zero entry")
			}
			for i, wantIs := range []bool{true, false} {
				b.p.remove(0)
				if e, is := b.x.Remove(0); e != (api.Entry{}) || is != wantIs || b.x.Len() != others {
					t.Fatalf("Remove %d of a zero entry = %v, %v, Len %d", i+1, e, is, b.x.Len())
				}
				if e, is := b.x.Get(0); e != (api.Entry{}) || is {
					t.Fatalf("Get(0), removed = %v, %v", e, is)
				}
				b.whole("a zero entry removed")
			}
		}
	}
}

// P15.3: the buckets of keys, and the order in them, worked out apart from the program.
func TestChainsOfFirstBuckets(t *testing.T) {
	const low, high = api.MinInt, api.MaxInt
	for _, c := range []struct {
		seed   int
		chains [8][]int
	}{
		{low, [8][]int{{low, 2}, {3}, {0}, {high}, {4}, {-1}, {1}, nil}},
		{-1, [8][]int{{-1, 0}, nil, {2}, {low}, {1, 3, 4}, nil, nil, {high}}},
		{0, [8][]int{{0, 3}, nil, {low, 2}, {-1}, {4}, {1, high}, nil, nil}},
		{1, [8][]int{{1, high}, {3}, {4}, {low}, {-1}, nil, {2}, {0}}},
		{high, [8][]int{{low, 1, high}, {4}, nil, {0}, {2}, nil, nil, {-1, 3}}},
	} {
		x := New(c.seed)
		for _, key := range []int{low, -1, 0, 1, high, 2, 3, 4} {
			x.Put(api.Entry{Key: key})
		}
		for i, want := range c.chains {
			if got := x.Chain(i); !slices.Equal(got, want) {
				t.Errorf("seed %d: Chain(%d) = %v, want %v", c.seed, i, got, want)
			}
		}
	}
}

// P15.2, P15.3: the same where it grows: the buckets that are left show none of their keys; with each call the first one of them is moved, and shows them in two.
func TestChainsWhileSomeAreLeft(t *testing.T) {
	for _, c := range []struct {
		seed   int
		chains [16][]int
	}{
		{api.MinInt, [16][]int{0: {2, 6}, 4: {4}, 9: {3}, 10: {0, 5}, 12: {7}, 14: {1, 8}}},
		{-1, [16][]int{0: {0}, 4: {1, 3, 4, 8}, 6: {5}, 10: {2}, 12: {6}, 14: {7}}},
		{0, [16][]int{0: {0, 3}, 4: {4, 7}, 5: {1}, 8: {8}, 10: {2}, 12: {5, 6}}},
		{1, [16][]int{0: {1}, 1: {3, 6}, 2: {5}, 6: {8}, 10: {4}, 13: {7}, 14: {2}, 15: {0}}},
		{api.MaxInt, [16][]int{2: {7}, 3: {8}, 4: {2}, 8: {1, 6}, 9: {4}, 11: {0}, 14: {5}, 15: {3}}},
	} {
		for _, call := range movers() {
			x := New(c.seed)
			for key := range 9 {
				x.Put(entry(key, 0))
			}
			for moved := range 9 {
				if x.Left() != 8-moved || x.Buckets() != 16 {
					t.Fatalf("seed %d, %s: Left %d, Buckets %d, want %d, 16", c.seed, call.what, x.Left(), x.Buckets(), 8-moved)
				}
				for i, want := range c.chains {
					if i%8 >= moved {
						want = nil
					}
					if got := x.Chain(i); !slices.Equal(got, want) {
						t.Fatalf("seed %d, %s, %d moved: Chain(%d) = %v, want %v", c.seed, call.what, moved, i, got, want)
					}
				}
				if all := x.All(); !slices.Equal(keysOf(all), []int{0, 1, 2, 3, 4, 5, 6, 7, 8}) {
					t.Fatalf("seed %d, %s, %d moved: All = %v", c.seed, call.what, moved, all)
				}
				call.do(x)
			}
		}
	}
}

// mover is a call that moves a bucket, and changes neither the keys nor their order.
type mover struct {
	what string
	do   func(*Table)
}

// movers are such calls, of a table of the keys 0 to 8 alone.
func movers() []mover {
	return []mover{
		{"Put over 0", func(x *Table) { x.Put(entry(0, 1)) }},
		{"Put over 8", func(x *Table) { x.Put(entry(8, 1)) }},
		{"Put over a key of each bucket", func(x *Table) { x.Put(entry(x.Left(), 2)) }},
		{"Remove of none", func(x *Table) { x.Remove(99) }},
		{"Remove of MinInt", func(x *Table) { x.Remove(api.MinInt) }},
		{"Remove of MaxInt", func(x *Table) { x.Remove(api.MaxInt) }},
	}
}

// P15.2, P15.6: what a call of each kind does to Left and Buckets, ahead of growing, behind it, and while some are left.
func TestLeftBehindEachCall(t *testing.T) {
	for _, seed := range ends() {
		for count := range 70 {
			kinds := []struct {
				what  string
				do    func(both)
				moves bool
			}{
				{"Get of a key", func(b both) { b.get(0) }, false},
				{"Get of none", func(b both) { b.get(-7) }, false},
				{"what only asks", func(b both) { b.whole("asked") }, false},
				{"Put over", func(b both) { b.put(entry(count/2, 1)) }, true},
				{"Remove", func(b both) { b.remove(count / 2) }, true},
				{"Remove of none", func(b both) { b.remove(-7) }, true},
			}
			for _, kind := range kinds {
				b := filled(t, seed, count)
				if count == 0 && kind.what == "Put over" {
					continue
				}
				left, buckets := b.x.Left(), b.x.Buckets()
				for range left + 3 {
					kind.do(b)
					if kind.moves {
						left = max(left-1, 0)
					}
					b.left(kind.what, left, buckets)
				}
				b.whole(kind.what)
			}
		}
	}
}

// P15.2: the calls by which a key comes anew to a table none of whose old buckets is left: it grows at once if it holds more than Buckets then, and not before.
func TestGrowsWhenItHoldsMore(t *testing.T) {
	for _, seed := range ends() {
		for _, size := range []int{8, 16, 32, 64} {
			b := filled(t, seed, size)
			for b.x.Left() > 0 {
				b.remove(-1)
			}
			b.left("all put that there are buckets", 0, size)
			b.get(0, size-1, size, -1)
			b.put(entry(0, 1), entry(size-1, 1))
			b.remove(-1, -2, size)
			b.left("no key more", 0, size)
			b.remove(0)
			b.put(entry(0, 2))
			b.left("one removed, and put again", 0, size)
			b.whole("full")
			b.put(entry(size, 0))
			b.left("one more", size, 2*size)
			b.whole("one more")
			b.remove(size)
			b.left("that one removed", size-1, 2*size)
			b.put(entry(size, 1))
			b.left("and put again", size-2, 2*size)
			b.whole("one more again")
		}
	}
}

// P15.2, P15.6: with Puts of keys that come anew alone it has all buckets moved by the Put that makes it grow again, which moves the last one first.
func TestLeftByPutsAlone(t *testing.T) {
	for _, seed := range ends() {
		b := newBoth(t, seed)
		buckets, left := 8, 0
		for n := 1; n <= 2100; n++ {
			b.put(entry(n, 0))
			left = max(left-1, 0)
			if n == buckets+1 {
				if left != 0 {
					t.Fatalf("%d left, where it has to grow", left)
				}
				buckets, left = 2*buckets, buckets
			}
			b.left("Puts alone", left, buckets)
			if n < 140 || n%100 == 0 {
				b.whole("Puts alone")
			}
		}
	}
}

// P15.2, P15.6: while some are left it does not grow, though keys come and go; how many calls that takes is how many were left.
func TestDoesNotGrowWhileSomeAreLeft(t *testing.T) {
	for _, seed := range ends() {
		for _, size := range []int{8, 16, 32} {
			for removes := 1; removes <= size; removes++ {
				b := filled(t, seed, size+1)
				b.left("grown", size, 2*size)
				for i := range removes {
					b.remove(i)
					b.left("Remove", size-i-1, 2*size)
				}
				for i := range size - removes {
					b.put(entry(1000+i, 0))
					b.left("Put", size-removes-i-1, 2*size)
				}
				b.whole("none left")
				for b.x.Len() < 2*size {
					b.put(entry(2000+b.x.Len(), 0))
					b.left("as many as there are buckets", 0, 2*size)
				}
				b.put(entry(3000, 0))
				b.left("one more", 2*size, 4*size)
				b.whole("one more")
			}
		}
	}
}

// P15.1, P15.2, P15.5: it grows up to MaxBuckets, and no more, though many more keys come, and it never has less.
func TestGrowsUpToMaxBuckets(t *testing.T) {
	for _, seed := range []int{api.MinInt, 1, api.MaxInt} {
		b := newBoth(t, seed)
		buckets, left := 8, 0
		for n := 1; n <= 140000; n++ {
			b.put(entry(7*n, 0))
			left = max(left-1, 0)
			if left == 0 && n > buckets && buckets < 65536 {
				buckets, left = 2*buckets, buckets
			}
			b.left("Puts", left, buckets)
			if n == 65535 || n == 65536 || n == 65537 || n == 65538 || n == 131073 {
				b.whole("Puts")
			}
		}
		b.left("all put", 0, 65536)
		b.whole("all put")
		b.put(entry(7, 1))
		b.left("put over", 0, 65536)
		for n := 140000; n >= 1; n-- {
			b.remove(7 * n)
		}
		b.left("all removed", 0, 65536)
		b.whole("all removed")
		b.put(upTo(0, 10)...)
		b.left("some put again", 0, 65536)
		b.whole("some put again")
	}
}

// P15.3: All is by rising keys, be they put in any order, with both ends among them, while some are left, and when none is.
func TestAllByRisingKeys(t *testing.T) {
	keys := []int{api.MinInt, api.MinInt + 1, -1 << 40, -100, -2, -1, 0, 1, 2, 3, 100, 1 << 32, 1 << 40, api.MaxInt - 1, api.MaxInt}
	for _, seed := range testkeys.Seeds() {
		for shift := range keys {
			for _, by := range []int{1, 2, 4, 7, 11, 14} {
				b, have := newBoth(t, seed), []int(nil)
				for i := range keys {
					key := keys[(shift+i*by)%len(keys)]
					b.put(entry(key, i))
					have = append(have, key)
					slices.Sort(have)
					if got := keysOf(b.x.All()); !slices.Equal(got, have) {
						t.Fatalf("seed %d: All has the keys %v, want %v", seed, got, have)
					}
				}
				b.whole("all put")
				for range 10 {
					b.remove(5)
					b.whole("some moved")
				}
				b.remove(api.MinInt, api.MaxInt)
				if got := keysOf(b.x.All()); !slices.Equal(got, keys[1:len(keys)-1]) {
					t.Fatalf("seed %d: All has the keys %v, both ends removed", seed, got)
				}
			}
		}
	}
}

// inBuckets are keys whose words end in those numbers, in that order: no two are the same, and in up to 2^16 buckets each is in the one that its number says.
func inBuckets(seed int, numbers ...int) []int {
	var keys []int
	for i, n := range numbers {
		keys = append(keys, testkeys.OfBits(seed, n, i))
	}
	return keys
}

// putKeys puts entries of keys, in that order.
func (b both) putKeys(turn int, keys ...int) {
	b.t.Helper()
	for _, key := range keys {
		b.put(entry(key, turn))
	}
}

func (b both) chain(what string, bucket int, want []int) {
	b.t.Helper()
	if got := b.x.Chain(bucket); !slices.Equal(got, want) {
		b.t.Fatalf("seed %d, %s: Chain(%d) = %v, want %v", b.p.seed, what, bucket, got, want)
	}
}

// P15.3: what is put over what was keeps its place, be it the first, the last or between; what is removed leaves the others' order, and comes behind them when it is put again.
func TestOrderInOneBucket(t *testing.T) {
	for _, seed := range ends() {
		for _, bucket := range []int{0, 1, 6, 7} {
			keys := inBuckets(seed, bucket, bucket, bucket, bucket, bucket)
			for i := range keys {
				b := newBoth(t, seed)
				b.putKeys(0, keys...)
				b.chain("put", bucket, keys)
				b.putKeys(1, keys[i])
				b.chain("put over", bucket, keys)
				b.whole("put over")
				b.remove(keys[i])
				rest := slices.Concat(keys[:i], keys[i+1:])
				b.chain("removed", bucket, rest)
				b.whole("removed")
				b.putKeys(2, keys[i])
				b.chain("put again", bucket, append(rest, keys[i]))
				b.whole("put again")
				for other := range 8 {
					if other != bucket {
						b.chain("empty", other, nil)
					}
				}
			}
		}
	}
}

// P15.3: what is moved keeps its order in each of the two new buckets; what came to the old one while it was left is among it, and what comes later stands behind.
func TestOrderOfWhatIsMoved(t *testing.T) {
	for _, seed := range ends() {
		for _, low := range []int{0, 1, 4, 6, 7} {
			high := low + 8
			keys := inBuckets(seed, low, high, low, low, high, high, low, high, low, low, high)
			b := newBoth(t, seed)
			b.putKeys(0, keys[:9]...)
			b.left("grown", 8, 16)
			b.chain("left", low, nil)
			b.chain("left", high, nil)
			come := 9
			for left := 7; left >= 0; left-- {
				if left == 7-low || come == 10 {
					b.remove(-5)
				} else if come == 9 {
					b.putKeys(0, keys[come])
					come++
				} else {
					b.putKeys(1, keys[0])
				}
				b.left("moving", left, 16)
				b.whole("moving")
			}
			b.putKeys(0, keys[come:]...)
			var lows, highs []int
			for _, key := range keys {
				if bucketOf(seed, key, 16) == low {
					lows = append(lows, key)
				} else {
					highs = append(highs, key)
				}
			}
			if len(lows) != 6 || len(highs) != 5 {
				t.Fatalf("the keys are of other buckets: %v, %v", lows, highs)
			}
			b.chain("moved", low, lows)
			b.chain("moved", high, highs)
		}
	}
}

// P15.2, P15.3: a call to a key of the first bucket that is left finds it moved already; one to a key of the next finds that still left.
func TestMovedAheadOfTheCall(t *testing.T) {
	for _, seed := range ends() {
		keys := inBuckets(seed, 0, 8, 0, 1, 9, 1, 2, 3, 4, 0, 1)
		for _, c := range []struct {
			what      string
			do        func(both)
			zero, one []int
		}{
			{"Put over one moved", func(b both) { b.putKeys(1, keys[2]) }, []int{keys[0], keys[2]}, nil},
			{"Put to the one moved", func(b both) { b.putKeys(0, keys[9]) }, []int{keys[0], keys[2], keys[9]}, nil},
			{"Remove from the one moved", func(b both) { b.remove(keys[0]) }, []int{keys[2]}, nil},
			{"Put over one left", func(b both) { b.putKeys(1, keys[5]) }, []int{keys[0], keys[2]}, []int{keys[3], keys[5]}},
			{"Put to one left", func(b both) { b.putKeys(0, keys[10]) }, []int{keys[0], keys[2]}, []int{keys[3], keys[5], keys[10]}},
			{"Remove from one left", func(b both) { b.remove(keys[3]) }, []int{keys[0], keys[2]}, []int{keys[5]}},
		} {
			b := newBoth(t, seed)
			b.putKeys(0, keys[:9]...)
			c.do(b)
			b.left(c.what, 7, 16)
			b.chain(c.what, 0, c.zero)
			b.chain(c.what, 8, []int{keys[1]})
			b.chain(c.what, 1, nil)
			b.chain(c.what, 9, nil)
			b.whole(c.what)
			if c.one != nil {
				b.remove(-5)
				b.chain(c.what+", moved", 1, c.one)
				b.chain(c.what+", moved", 9, []int{keys[4]})
			}
		}
	}
}

// P15.3, P15.5: many keys in one bucket only, through several growings, the last of which leaves it one bucket still.
func TestAllInOneBucket(t *testing.T) {
	for _, seed := range ends() {
		for _, bucket := range []int{0, 5, 65535} {
			b := newBoth(t, seed)
			keys := inBuckets(seed, slices.Repeat([]int{bucket}, 300)...)
			b.putKeys(0, keys...)
			b.whole("one bucket")
			for b.x.Left() > 0 {
				b.remove(keys[len(keys)/2] + 1)
			}
			b.chain("one bucket", bucket%b.x.Buckets(), keys)
			b.putKeys(1, keys...)
			b.chain("one bucket, put over", bucket%b.x.Buckets(), keys)
			for i := 0; i < len(keys); i += 2 {
				b.remove(keys[i])
			}
			b.whole("every other one removed")
		}
	}
}

// scribble writes over a list and its spare room.
func scribble[E any](list []E, with E) {
	all := list[:cap(list)]
	for i := range all {
		all[i] = with
	}
}

// P15.4: what All and Chain answered is written over, with its spare room, and the table stays as it was; the table changes, and what they answered stays.
func TestAnswersAreNewMemory(t *testing.T) {
	for _, seed := range ends() {
		for _, count := range []int{0, 1, 2, 5, 8, 9, 11, 16, 17, 20, 40} {
			b := filled(t, seed, count)
			scribble(b.x.All(), entry(-9, 9))
			for i := range b.x.Buckets() {
				scribble(b.x.Chain(i), -9)
			}
			b.whole("answers written over")
			scribble(append(b.x.All(), entry(-8, 8)), entry(-9, 9))
			for i := range b.x.Buckets() {
				scribble(append(b.x.Chain(i), -8), -9)
			}
			b.whole("answers appended to")
			all, chains := b.x.All(), [][]int(nil)
			wantAll, wantChains := b.p.all(), [][]int(nil)
			for i := range b.x.Buckets() {
				chains = append(chains, b.x.Chain(i))
				wantChains = append(wantChains, slices.Clone(b.p.chains[i]))
			}
			for key := range count {
				b.put(entry(key, 5))
			}
			for key := range count / 2 {
				b.remove(2 * key)
			}
			b.put(upTo(500, 20)...)
			if !slices.Equal(all, wantAll) {
				t.Fatalf("seed %d, %d keys: what All answered has changed: %v, want %v", seed, count, all, wantAll)
			}
			for i, want := range wantChains {
				if !slices.Equal(chains[i], want) {
					t.Fatalf("seed %d, %d keys: what Chain(%d) answered has changed: %v, want %v", seed, count, i, chains[i], want)
				}
			}
		}
	}
}

// P15.4: two answers share nothing with one another, be they of one call asked twice, or of two buckets.
func TestAnswersAreApart(t *testing.T) {
	for _, count := range []int{1, 3, 8, 9, 16, 30} {
		b := filled(t, 1, count)
		first, second := b.x.All(), b.x.All()
		scribble(first, entry(-9, 9))
		if !slices.Equal(second, b.p.all()) {
			t.Fatalf("%d keys: the second All has changed with the first: %v", count, second)
		}
		var chains, again [][]int
		for i := range b.x.Buckets() {
			chains = append(chains, b.x.Chain(i))
			again = append(again, b.x.Chain(i))
		}
		for i := range chains {
			scribble(chains[i], -9)
			for j, want := range b.p.chains {
				if !slices.Equal(again[j], want) || j > i && !slices.Equal(chains[j], want) {
					t.Fatalf("%d keys: Chain(%d) has changed with Chain(%d)", count, j, i)
				}
			}
		}
	}
}

// P15.1: tables share nothing, be they made alike.
func TestTablesAreApart(t *testing.T) {
	for _, seed := range ends() {
		for _, count := range []int{0, 3, 8, 9, 20} {
			a, b := filled(t, seed, count), filled(t, seed, count)
			a.put(upTo(100, 10)...)
			b.whole("the other one, behind Puts")
			b.put(entry(0, 3), entry(100, 4))
			a.whole("the one, behind Puts")
			b.remove(1, 100)
			a.whole("the one, behind Removes")
			a.remove(keysOf(a.p.all())...)
			b.whole("the other one, behind Removes of all")
			b.put(upTo(200, 40)...)
			a.whole("the one, all removed")
		}
	}
}

// P15.5: all keys are removed, in several orders, and put again, at several counts: what is left then is an empty table with as many buckets as before, which grows when it holds more than these.
func TestRemoveAllAndPutAgain(t *testing.T) {
	for _, seed := range ends() {
		for _, count := range []int{1, 2, 7, 8, 9, 10, 15, 16, 17, 24, 33, 64, 65, 100} {
			for order := range 3 {
				b := filled(t, seed, count)
				buckets := b.x.Buckets()
				for turn := range 3 {
					keys := keysOf(b.p.all())
					if order == 1 {
						slices.Reverse(keys)
					} else if order == 2 {
						slices.SortFunc(keys, func(i, j int) int { return i*37%101 - j*37%101 })
					}
					b.remove(keys...)
					b.whole("all removed")
					if b.x.Len() != 0 || len(b.x.All()) != 0 || b.x.Buckets() != buckets {
						t.Fatalf("seed %d: Len %d, All %v, Buckets %d, want %d", seed, b.x.Len(), b.x.All(), b.x.Buckets(), buckets)
					}
					b.remove(keys...)
					b.whole("all removed twice")
					b.putKeys(turn, keys...)
					b.whole("all put again")
					b.left("all put again", 0, buckets)
				}
				b.put(upTo(1000, buckets-count)...)
				b.left("as many as buckets", 0, buckets)
				b.put(entry(5000, 0))
				b.left("one more", buckets, 2*buckets)
				b.whole("one more")
			}
		}
	}
}

// chance is a row of numbers that looks like chance, and is the same each time: each from 0 to one below what it is asked for.
func chance(seed int) func(int) int {
	word := uint64(seed)
	return func(k int) int {
		word = word*6364136223846793005 + 1442695040888963407
		return int(word >> 33 % uint64(k))
	}
}

// P15.1 to P15.6: every row of six calls on tables that are about to grow, or have some left.
func TestEveryRowOfCalls(t *testing.T) {
	const length, calls = 6, 5
	rows := 1
	for range length {
		rows *= calls
	}
	for _, count := range []int{8, 14} {
		for row := range rows {
			b, left := filled(t, row-99, count), row
			for i := range length {
				switch left % calls {
				case 0:
					b.put(entry(100+i, 0))
				case 1:
					b.put(entry(3*i%8, 1))
				case 2:
					b.remove(2 + i)
				case 3:
					b.remove(-1)
				default:
					b.get(i, 100, -1)
				}
				left /= calls
			}
			b.whole("a row of calls")
		}
	}
}

// P15.5: a table goes with the plain one through long rows of calls, of all kinds of keys and entries; by turns it fills and empties.
func TestAsThePlainOne(t *testing.T) {
	for _, seed := range append(testkeys.Seeds(), 77, -123456789) {
		for _, keys := range []int{4, 12, 40, 300, 2000} {
			b, next := newBoth(t, seed), chance(seed+keys)
			for i := range 4000 {
				key := next(keys) - keys/3
				if next(3) == 0 {
					key = testkeys.At(next(2 * keys))
				}
				filling := i/(3*keys)%2 == 0
				switch do := next(10); {
				case do == 0:
					b.get(key)
				case filling && do < 8 || do < 3:
					b.put(api.Entry{Key: key, Value: next(5) - 2, Weight: testkeys.At(i), Node: i})
				default:
					b.remove(key)
				}
				if i%97 == 0 {
					b.whole("a long row")
				}
			}
			b.whole("a long row")
		}
	}
}

// P15.5: what a table holds does not hang on its seed: those of all seeds, behind the same calls, tell the same entries, Len, Buckets and Left.
func TestWhateverTheSeed(t *testing.T) {
	var all []*Table
	for _, seed := range append(testkeys.Seeds(), 5, 123, -5) {
		all = append(all, New(seed))
	}
	next := chance(3)
	for i := range 3000 {
		key, do := testkeys.At(next(200)), next(10)
		for _, x := range all {
			if do < 7 {
				x.Put(entry(key, i))
			} else {
				x.Remove(key)
			}
			if x.Len() != all[0].Len() || x.Buckets() != all[0].Buckets() || x.Left() != all[0].Left() {
				t.Fatalf("call %d: Len %d, Buckets %d, Left %d, not %d, %d, %d", i,
					x.Len(), x.Buckets(), x.Left(), all[0].Len(), all[0].Buckets(), all[0].Left())
			}
			if i%50 == 0 && !slices.Equal(x.All(), all[0].All()) {
				t.Fatalf("call %d: All = %v, not %v", i, x.All(), all[0].All())
			}
		}
	}
}

// P15.2, P15.3: what asks only moves nothing and changes nothing, as often as it is asked.
func TestAskingChangesNothing(t *testing.T) {
	for _, seed := range ends() {
		for _, count := range []int{0, 1, 8, 9, 12, 17, 30} {
			b := filled(t, seed, count)
			for range 20 {
				for key := range count + 2 {
					b.x.Get(key - 1)
				}
				b.x.Chain(0)
				b.x.All()
				b.whole("asked")
			}
		}
	}
}
