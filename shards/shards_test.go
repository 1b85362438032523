package shards

import (
	"maps"
	"slices"
	"testing"

	"pantry/api"
	"pantry/table"
	"pantry/testkeys"
)

// plain is the chapter's map in its own words: a plain map, and the state of each node that was given, the first being the node 1.
type plain struct {
	entries map[int]api.Entry
	states  []int
}

func newPlain() *plain { return &plain{entries: map[int]api.Entry{}} }

func (p *plain) state(node int) int {
	if node < 1 || node > len(p.states) {
		return api.Never
	}
	return p.states[node-1]
}

// inRange is a weight clamped to 0 to MaxWeight.
func inRange(weight int) int {
	switch {
	case weight < 0:
		return 0
	case weight > 1<<31:
		return 1 << 31
	}
	return weight
}

func (p *plain) put(key, value, weight int) (api.Entry, bool) {
	e, is := p.entries[key]
	was := e
	if !is {
		p.states = append(p.states, api.Alive)
		e.Key, e.Node = key, len(p.states)
	}
	e.Value, e.Weight = value, inRange(weight)
	p.entries[key] = e
	if !is {
		return e, false
	}
	return was, true
}

// out takes out a key's entry, whose node is in that state then.
func (p *plain) out(key, state int) (api.Entry, bool) {
	e, is := p.entries[key]
	if is {
		delete(p.entries, key)
		p.states[e.Node-1] = state
	}
	return e, is
}

func (p *plain) evict(node int) (api.Entry, bool) {
	for key, e := range p.entries {
		if e.Node == node {
			return p.out(key, api.Dead)
		}
	}
	return api.Entry{}, false
}

func (p *plain) bury(node int) api.Errno {
	switch p.state(node) {
	case api.Dead:
		return api.ErrDead
	case api.Retired:
		p.states[node-1] = api.Dead
		return api.OK
	}
	return api.ErrNone
}

func (p *plain) weight() int {
	sum := 0
	for _, e := range p.entries {
		sum += e.Weight
	}
	return sum
}

func (p *plain) all() []api.Entry {
	var all []api.Entry
	for _, key := range slices.Sorted(maps.Keys(p.entries)) {
		all = append(all, p.entries[key])
	}
	return all
}

// both are a map and a plain one that are handed the same calls; each call is held to what the plain one answers, and so is what the map tells behind it.
type both struct {
	t     *testing.T
	x     *Map
	p     *plain
	count int // how many tables there have to be
	seed  int
}

func newBoth(t *testing.T, count, seed int) both {
	t.Helper()
	b := both{t, New(count, seed), newPlain(), tablesOf(count), seed}
	b.whole("New")
	return b
}

// tablesOf is the first power of two, up to 64, that is no less than count.
func tablesOf(count int) int {
	n := 1
	for n < count && n < 64 {
		n *= 2
	}
	return n
}

// same holds to each other what can be told fast.
func (b both) same(what string) {
	b.t.Helper()
	n, weight, count := b.x.Len(), b.x.Weight(), b.x.Count()
	if n != len(b.p.entries) || weight != b.p.weight() || count != b.count {
		b.t.Fatalf("%d tables, seed %d, %s: Len %d, Weight %d, Count %d, want %d, %d, %d",
			b.count, b.seed, what, n, weight, count, len(b.p.entries), b.p.weight(), b.count)
	}
}

// states holds to each other the states of all nodes that were given, and of others, far ones too.
func (b both) states(what string) {
	b.t.Helper()
	for node := -2; node <= len(b.p.states)+3; node++ {
		b.state(what, node, b.p.state(node))
	}
	n := len(b.p.states)
	for _, node := range []int{api.MinInt, api.MinInt + 1, -n - 1, -n, -1 << 32, 1<<32 + 1, n + 64, api.MaxInt - 1, api.MaxInt} {
		b.state(what, node, b.p.state(node))
	}
}

func (b both) state(what string, node, want int) {
	b.t.Helper()
	if got := b.x.State(node); got != want {
		b.t.Fatalf("%d tables, seed %d, %s: State(%d) = %d, want %d", b.count, b.seed, what, node, got, want)
	}
}

// whole holds to each other all that can be asked.
func (b both) whole(what string) {
	b.t.Helper()
	b.same(what)
	b.states(what)
	if got, want := b.x.All(), b.p.all(); !slices.Equal(got, want) {
		b.t.Fatalf("%d tables, seed %d, %s: All = %v, want %v", b.count, b.seed, what, got, want)
	}
	b.get(slices.Collect(maps.Keys(b.p.entries))...)
	b.get(ends()...)
	for _, key := range ends() {
		if i := b.x.Shard(key); i < 0 || i >= b.count {
			b.t.Fatalf("%d tables, seed %d, %s: Shard(%d) = %d", b.count, b.seed, what, key, i)
		}
	}
	b.same(what + ", all of it asked")
}

func (b both) get(keys ...int) {
	b.t.Helper()
	for _, key := range keys {
		got, is := b.x.Get(key)
		want, wantIs := b.p.entries[key]
		b.answers("Get", key, got, is, want, wantIs)
	}
}

// answers holds an entry, and whether it was, to what they have to be.
func (b both) answers(call string, n int, got api.Entry, is bool, want api.Entry, wantIs bool) {
	b.t.Helper()
	if got != want || is != wantIs {
		b.t.Fatalf("%d tables, seed %d: %s(%d) = %+v, %v, want %+v, %v", b.count, b.seed, call, n, got, is, want, wantIs)
	}
}

func (b both) put(key, value, weight int) {
	b.t.Helper()
	got, is := b.x.Put(key, value, weight)
	want, wantIs := b.p.put(key, value, weight)
	b.answers("Put", key, got, is, want, wantIs)
	b.get(key)
	b.same("Put")
}

// putKeys puts keys, with values and weights that tell them and the turn.
func (b both) putKeys(turn int, keys ...int) {
	b.t.Helper()
	for i, key := range keys {
		b.put(key, 10*key+turn, 1+i+turn)
	}
}

func (b both) remove(keys ...int) {
	b.t.Helper()
	for _, key := range keys {
		got, is := b.x.Remove(key)
		want, wantIs := b.p.out(key, api.Retired)
		b.answers("Remove", key, got, is, want, wantIs)
		b.get(key)
		b.same("Remove")
	}
}

func (b both) evict(nodes ...int) {
	b.t.Helper()
	for _, node := range nodes {
		got, is := b.x.Evict(node)
		want, wantIs := b.p.evict(node)
		b.answers("Evict", node, got, is, want, wantIs)
		b.get(want.Key)
		b.state("Evict", node, b.p.state(node))
		b.same("Evict")
	}
}

func (b both) bury(nodes ...int) {
	b.t.Helper()
	for _, node := range nodes {
		if got, want := b.x.Bury(node), b.p.bury(node); got != want {
			b.t.Fatalf("%d tables, seed %d: Bury(%d) = %d, want %d", b.count, b.seed, node, got, want)
		}
		b.state("Bury", node, b.p.state(node))
		b.same("Bury")
	}
}

// ends are numbers at and around 0, and at both ends: seeds and keys as well as nodes.
func ends() []int { return []int{api.MinInt, -1, 0, 1, api.MaxInt} }

// counts are those of maps with few tables, some, and the most.
func counts() []int { return []int{1, 2, 3, 5, 16, 64} }

// everyMap calls do with new maps of all counts and seeds.
func everyMap(t *testing.T, do func(b both)) {
	t.Helper()
	for _, count := range counts() {
		for _, seed := range ends() {
			do(newBoth(t, count, seed))
		}
	}
}

// P16.1: New of counts and seeds at and around all limits and both ends: how many tables, and a map that holds nothing.
func TestNew(t *testing.T) {
	for _, c := range []struct{ count, want int }{
		{api.MinInt, 1}, {-64, 1}, {-1, 1}, {0, 1}, {1, 1}, {2, 2}, {3, 4}, {4, 4}, {5, 8}, {8, 8}, {9, 16}, {31, 32}, {32, 32}, {33, 64},
		{63, 64}, {64, 64}, {65, 64}, {128, 64}, {1 << 32, 64}, {api.MaxInt - 1, 64}, {api.MaxInt, 64},
	} {
		for _, seed := range append(testkeys.Seeds(), ends()...) {
			x := New(c.count, seed)
			for range 2 {
				if x.Count() != c.want || len(x.tables) != c.want || x.Len() != 0 || x.Weight() != 0 || len(x.All()) != 0 {
					t.Fatalf("New(%d, %d): Count %d, Len %d, Weight %d, All %v, want %d tables", c.count, seed, x.Count(), x.Len(), x.Weight(), x.All(), c.want)
				}
				for _, n := range append(ends(), seed, c.count) {
					isNothing(t, x, n)
				}
			}
			b := newBoth(t, c.count, seed)
			b.putKeys(0, ends()...)
			b.whole("keys put")
		}
	}
}

// isNothing holds a number to be no key that is there, and no node that was given.
func isNothing(t *testing.T, x *Map, n int) {
	t.Helper()
	if e, is := x.Get(n); e != (api.Entry{}) || is {
		t.Fatalf("Get(%d) = %v, %v", n, e, is)
	}
	if e, is := x.Remove(n); e != (api.Entry{}) || is {
		t.Fatalf("Remove(%d) = %v, %v", n, e, is)
	}
	if e, is := x.Evict(n); e != (api.Entry{}) || is {
		t.Fatalf("Evict(%d) = %v, %v", n, e, is)
	}
	if e := x.Bury(n); e != api.ErrNone {
		t.Fatalf("Bury(%d) = %d, want %d", n, e, api.ErrNone)
	}
	if s := x.State(n); s != api.Never {
		t.Fatalf("State(%d) = %d, want %d", n, s, api.Never)
	}
}

// The chapter's example: the nodes of Put 7, Put 7, Remove 7, Put 7.
func TestExample(t *testing.T) {
	for _, count := range counts() {
		for _, seed := range append(testkeys.Seeds(), ends()...) {
			x := New(count, seed)
			a, isA := x.Put(7, 70, 1)
			b, isB := x.Put(7, 71, 2)
			c, isC := x.Remove(7)
			d, isD := x.Put(7, 72, 3)
			if nodes := []int{a.Node, b.Node, c.Node, d.Node}; !slices.Equal(nodes, []int{1, 1, 1, 2}) {
				t.Fatalf("New(%d, %d): nodes %v, want 1, 1, 1, 2", count, seed, nodes)
			}
			if isA || !isB || !isC || isD {
				t.Fatalf("New(%d, %d): %v, %v, %v, %v, want false, true, true, false", count, seed, isA, isB, isC, isD)
			}
		}
	}
}

// P16.1: the tables of keys, worked out apart from the program.
func TestShardWorkedOut(t *testing.T) {
	keys := []int{api.MinInt, -1, 0, 1, api.MaxInt, 2, 7}
	for _, c := range []struct {
		seed, count int
		want        []int
	}{
		{api.MinInt, 1, []int{0, 0, 0, 0, 0, 0, 0}},
		{api.MinInt, 2, []int{0, 0, 1, 0, 0, 0, 0}},
		{api.MinInt, 4, []int{0, 2, 1, 0, 0, 2, 2}},
		{api.MinInt, 16, []int{0, 14, 5, 0, 12, 2, 6}},
		{api.MinInt, 64, []int{0, 62, 37, 48, 60, 18, 38}},
		{-1, 2, []int{0, 1, 0, 0, 1, 0, 1}},
		{-1, 4, []int{2, 3, 2, 0, 1, 0, 3}},
		{-1, 16, []int{2, 7, 6, 12, 5, 0, 15}},
		{-1, 64, []int{50, 55, 6, 12, 21, 16, 15}},
		{0, 2, []int{1, 0, 0, 1, 0, 1, 1}},
		{0, 4, []int{1, 0, 0, 1, 2, 3, 3}},
		{0, 16, []int{5, 12, 0, 13, 14, 7, 3}},
		{0, 64, []int{37, 60, 0, 29, 62, 23, 35}},
		{1, 2, []int{0, 0, 1, 1, 1, 0, 1}},
		{1, 4, []int{2, 0, 1, 3, 3, 2, 3}},
		{1, 16, []int{2, 12, 9, 7, 3, 14, 11}},
		{1, 64, []int{34, 12, 57, 55, 3, 30, 11}},
		{api.MaxInt, 2, []int{0, 1, 0, 1, 1, 0, 0}},
		{api.MaxInt, 4, []int{2, 1, 2, 3, 3, 2, 0}},
		{api.MaxInt, 16, []int{6, 5, 2, 3, 7, 6, 0}},
		{api.MaxInt, 64, []int{6, 21, 50, 3, 55, 22, 0}},
	} {
		x := New(c.count, c.seed)
		var got []int
		for _, key := range keys {
			got = append(got, x.Shard(key))
		}
		if !slices.Equal(got, c.want) {
			t.Errorf("New(%d, %d): Shard of %v = %v, want %v", c.count, c.seed, keys, got, c.want)
		}
	}
}

// shardOf is a key's table as chapter 1 tells it: the word of seed and key, turned left by 32, and as many of its low bits as there are tables.
func shardOf(seed, key, count int) int {
	x := uint64(key) ^ uint64(seed)*0x9E3779B97F4A7C15
	x = (x ^ x>>30) * 0xBF58476D1CE4E5B9
	x = (x ^ x>>27) * 0x94D049BB133111EB
	x ^= x >> 31
	return int((x<<32 | x>>32) % uint64(count))
}

// P16.1: Shard of many keys, of all counts and seeds: from 0 to Count - 1, by the word's row 2, and 0 where there is one table; all tables have some keys.
func TestShardOfManyKeys(t *testing.T) {
	for _, count := range []int{api.MinInt, 0, 1, 2, 3, 4, 7, 8, 16, 32, 64, 65, api.MaxInt} {
		for _, seed := range append(testkeys.Seeds(), ends()...) {
			x, met := New(count, seed), map[int]bool{}
			for i := range 2000 {
				for _, key := range []int{testkeys.At(i), i, -i} {
					got := x.Shard(key)
					if got != shardOf(seed, key, x.Count()) || got < 0 || got >= x.Count() || x.Count() == 1 && got != 0 {
						t.Fatalf("New(%d, %d): Shard(%d) = %d, want %d", count, seed, key, got, shardOf(seed, key, x.Count()))
					}
					met[got] = true
				}
			}
			if len(met) != x.Count() {
				t.Fatalf("New(%d, %d): %d of %d tables have keys", count, seed, len(met), x.Count())
			}
		}
	}
}

// P16.1: a key's table is always the same, whatever is called, be the key there or not.
func TestShardIsAlwaysTheSame(t *testing.T) {
	everyMap(t, func(b both) {
		keys := append(ends(), 2, 7, 99, -1<<40)
		var want []int
		for _, key := range keys {
			want = append(want, b.x.Shard(key))
		}
		same := func(what string) {
			t.Helper()
			for i, key := range keys {
				if got := b.x.Shard(key); got != want[i] {
					t.Fatalf("%d tables, seed %d, %s: Shard(%d) = %d, it was %d", b.count, b.seed, what, key, got, want[i])
				}
			}
		}
		same("asked again")
		b.putKeys(0, keys...)
		same("put")
		b.putKeys(1, keys...)
		same("put over")
		b.remove(keys[:4]...)
		same("removed")
		b.evict(5, 6)
		b.bury(1, 2)
		same("evicted and buried")
		for i := range 300 {
			b.x.Put(1000+i, i, i)
		}
		same("many put")
	})
}

// P16.1: each entry stands in the table that Shard tells, and in no other; and the tables are such as have the map's seed.
func TestTablesByShard(t *testing.T) {
	for _, count := range counts() {
		for _, seed := range ends() {
			x := New(count, seed)
			var want []*table.Table
			for range x.Count() {
				want = append(want, table.New(seed))
			}
			for i := range 200 {
				key := testkeys.At(i)
				e, is := x.Put(key, i, i)
				if !is {
					want[shardOf(seed, key, x.Count())].Put(e)
				}
				if i%5 == 4 {
					x.Remove(testkeys.At(i / 2))
					want[shardOf(seed, testkeys.At(i/2), x.Count())].Remove(testkeys.At(i / 2))
				}
			}
			for i, w := range want {
				sameKeys(t, i, x.tables[i], w)
			}
		}
	}
}

// sameKeys holds the keys of two tables at a place to each other, and, where none of either's buckets is left to be moved, those of each bucket too.
func sameKeys(t *testing.T, place int, x, want *table.Table) {
	t.Helper()
	if got, keys := keysOf(x.All()), keysOf(want.All()); !slices.Equal(got, keys) {
		t.Fatalf("table %d holds %v, want %v", place, got, keys)
	}
	for _, k := range []*table.Table{x, want} {
		for k.Left() > 0 {
			k.Remove(-12345)
		}
	}
	for i := range want.Buckets() {
		got, keys := slices.Sorted(slices.Values(x.Chain(i))), slices.Sorted(slices.Values(want.Chain(i)))
		if !slices.Equal(got, keys) {
			t.Fatalf("table %d, bucket %d: %v, want %v", place, i, got, keys)
		}
	}
}

// keysOf are the keys of entries, in order.
func keysOf(entries []api.Entry) []int {
	var keys []int
	for _, e := range entries {
		keys = append(keys, e.Key)
	}
	return keys
}

// holder is a map that holds other keys, as the life of one key goes on.
type holder struct {
	both
	key int
	n   int // of the others, how many there are
	sum int // of the others, what they weigh
}

// hold tells what the key's entry is now, or that there is none, and what all weigh.
func (h holder) hold(what string, want api.Entry, is bool) {
	h.t.Helper()
	got, gotIs := h.x.Get(h.key)
	if got != want || gotIs != is {
		h.t.Fatalf("%d tables, seed %d, %s: Get(%d) = %+v, %v, want %+v, %v", h.count, h.seed, what, h.key, got, gotIs, want, is)
	}
	n := h.n
	if is {
		n++
	}
	if h.x.Len() != n || h.x.Weight() != h.sum+want.Weight {
		h.t.Fatalf("%d tables, seed %d, %s: Len %d, Weight %d, want %d, %d", h.count, h.seed, what, h.x.Len(), h.x.Weight(), n, h.sum+want.Weight)
	}
	h.whole(what)
}

// tell holds what was answered to what has to be.
func (h holder) tell(what string, got api.Entry, is bool, want api.Entry, wantIs bool) {
	h.t.Helper()
	if got != want || is != wantIs {
		h.t.Fatalf("%d tables, seed %d, key %d, %s: %+v, %v, want %+v, %v", h.count, h.seed, h.key, what, got, is, want, wantIs)
	}
}

// life is that of one key: never there, put, put over, removed, put again, evicted, and put once more.
func (h holder) life() {
	h.t.Helper()
	x, key, given := h.x, h.key, len(h.p.states)
	first := api.Entry{Key: key, Value: 5, Weight: 3, Node: given + 1}
	over := api.Entry{Key: key, Value: -6, Weight: 40, Node: given + 1}
	second := api.Entry{Key: key, Value: 7, Weight: 11, Node: given + 2}
	third := api.Entry{Key: key, Node: given + 3}
	none := api.Entry{}
	put := func(what string, e, want api.Entry, wantIs bool) {
		h.t.Helper()
		h.p.put(key, e.Value, e.Weight)
		got, is := x.Put(key, e.Value, e.Weight)
		h.tell(what, got, is, want, wantIs)
		h.hold(what, e, true)
	}
	out := func(what string, got api.Entry, is bool, want api.Entry, wantIs bool) {
		h.t.Helper()
		h.tell(what, got, is, want, wantIs)
		h.hold(what, none, false)
	}
	h.hold("never there", none, false)
	got, is := x.Remove(key)
	out("Remove of a key that was never there", got, is, none, false)
	put("a first Put", first, first, false)
	put("a Put over it", over, first, true)
	put("the same Put again", over, over, true)
	h.p.out(key, api.Retired)
	got, is = x.Remove(key)
	out("Remove", got, is, over, true)
	got, is = x.Remove(key)
	out("Remove again", got, is, none, false)
	got, is = x.Evict(first.Node)
	out("Evict of a node that is Retired", got, is, none, false)
	put("Put of a key that was removed", second, second, false)
	h.p.out(key, api.Dead)
	got, is = x.Evict(second.Node)
	out("Evict", got, is, second, true)
	got, is = x.Evict(second.Node)
	out("Evict again", got, is, none, false)
	got, is = x.Remove(key)
	out("Remove of a key that was evicted", got, is, none, false)
	put("Put of a key that was evicted", third, third, false)
	put("and over it", third, third, true)
}

// P16.1, P16.2, P16.3: the life of one key, of all kinds, in maps of all kinds that hold no other keys, and some, and many.
func TestLifeOfOneKey(t *testing.T) {
	for _, others := range []int{0, 1, 5, 40} {
		everyMap(t, func(b both) {
			for _, key := range append(ends(), b.seed-1, 7, 1<<32, api.MinInt+1, api.MaxInt-1) {
				h := holder{newBoth(t, b.count, b.seed), key, others, 0}
				for i := range others {
					h.put(1000+i, i, i)
					h.sum += i
				}
				h.life()
			}
		})
	}
}

// P16.2: a value is held as it is, and so is a zero entry's: it is there, though all but its node is zero.
func TestValues(t *testing.T) {
	everyMap(t, func(b both) {
		for _, value := range append(ends(), 12345, -1<<40) {
			for i, key := range ends() {
				b.put(key, value, 0)
				if e, is := b.x.Get(key); e != (api.Entry{Key: key, Value: value, Node: i + 1}) || !is {
					t.Fatalf("%d tables, seed %d: Get(%d) = %+v, %v, the value is %d", b.count, b.seed, key, e, is, value)
				}
			}
		}
		b.whole("values put")
	})
}

// P16.1, P16.2, words: weights are clamped, put newly and put over all others.
func TestWeights(t *testing.T) {
	weights := []struct{ weight, want int }{
		{api.MinInt, 0}, {-1 << 31, 0}, {-2, 0}, {-1, 0}, {0, 0}, {1, 1}, {1000, 1000}, {1<<31 - 1, 1<<31 - 1},
		{1 << 31, 1 << 31}, {1<<31 + 1, 1 << 31}, {1 << 32, 1 << 31}, {1<<63 - 2, 1 << 31}, {api.MaxInt, 1 << 31},
	}
	everyMap(t, func(b both) {
		b.put(-5, 0, 17)
		for i, first := range weights {
			for _, second := range weights {
				key := i
				e, is := b.x.Put(key, 1, first.weight)
				if is || e.Weight != first.want || b.x.Weight() != 17+first.want {
					t.Fatalf("Put of a weight of %d: %+v, %v; Weight %d", first.weight, e, is, b.x.Weight())
				}
				e, is = b.x.Put(key, 2, second.weight)
				if !is || e.Weight != first.want || b.x.Weight() != 17+second.want {
					t.Fatalf("Put of %d over %d: %+v, %v; Weight %d", second.weight, first.weight, e, is, b.x.Weight())
				}
				e, is = b.x.Get(key)
				if !is || e.Weight != second.want || b.x.All()[1] != e {
					t.Fatalf("Get of a weight of %d: %+v, %v, All %v", second.weight, e, is, b.x.All())
				}
				e, is = takeOut(b.x, e)
				if !is || e.Weight != second.want || b.x.Weight() != 17 {
					t.Fatalf("taken out of a weight of %d: %+v, %v; Weight %d", second.weight, e, is, b.x.Weight())
				}
			}
		}
	})
}

// takeOut takes out an entry, by its key or its node, by turns.
func takeOut(x *Map, e api.Entry) (api.Entry, bool) {
	if e.Node%2 == 0 {
		return x.Remove(e.Key)
	}
	return x.Evict(e.Node)
}

// P16.1: Weight of many entries of MaxWeight, and down again.
func TestWeightOfMany(t *testing.T) {
	for _, count := range counts() {
		x := New(count, 1)
		for i := range 3000 {
			x.Put(i, 0, api.MaxInt-i)
			if x.Weight() != (i+1)<<31 || x.Len() != i+1 {
				t.Fatalf("%d put: Weight %d, Len %d", i+1, x.Weight(), x.Len())
			}
		}
		for i := range 3000 {
			takeOut(x, api.Entry{Key: i, Node: i + 1})
			if x.Weight() != (2999-i)<<31 || x.Len() != 2999-i {
				t.Fatalf("%d taken out: Weight %d, Len %d", i+1, x.Weight(), x.Len())
			}
		}
	}
}

// lives is a map of nodes of all states: 1, 4 and 6 are Alive, 2 is Retired, 3 Dead by Evict, 5 Dead by Bury; no others were given.
func lives(t *testing.T, count, seed int) both {
	t.Helper()
	b := newBoth(t, count, seed)
	b.putKeys(0, api.MinInt, -1, 0, 1, 2, api.MaxInt)
	b.remove(-1, 2)
	b.evict(3)
	b.bury(5)
	b.whole("lives")
	return b
}

// everyLives calls do with maps of nodes of all states, of all counts and seeds.
func everyLives(t *testing.T, do func(b both)) {
	t.Helper()
	for _, count := range counts() {
		for _, seed := range ends() {
			do(lives(t, count, seed))
		}
	}
}

// notGiven are nodes that lives has not.
func notGiven() []int {
	return []int{api.MinInt, api.MinInt + 1, -7, -6, -3, -2, -1, 0, 7, 8, 64, 1<<32 + 1, 1<<32 + 2, 1<<32 + 3, api.MaxInt - 1, api.MaxInt}
}

// P16.3: State of nodes of each state, and of others.
func TestState(t *testing.T) {
	everyLives(t, func(b both) {
		for i, want := range []int{api.Alive, api.Retired, api.Dead, api.Alive, api.Dead, api.Alive} {
			b.state("lives", i+1, want)
		}
		for _, node := range notGiven() {
			b.state("not given", node, api.Never)
		}
		b.putKeys(1, 50, 51)
		b.state("given now", 7, api.Alive)
		b.state("given now", 8, api.Alive)
		b.state("not given yet", 9, api.Never)
		b.whole("two more")
	})
}

// P16.3: the states' numbers tell them apart, and a new map's nodes are all Never.
func TestStatesAreUnlike(t *testing.T) {
	states := []int{api.Never, api.Alive, api.Retired, api.Dead}
	if slices.Sort(states); len(slices.Compact(states)) != 4 {
		t.Fatalf("states are %v", states)
	}
}

// P16.3: Evict of a node that is Alive: the entry that was; it is Dead then, at once, and there is none of its key.
func TestEvictAlive(t *testing.T) {
	for _, c := range []struct{ node, key int }{{1, api.MinInt}, {4, 1}, {6, api.MaxInt}} {
		everyLives(t, func(b both) {
			want, _ := b.x.Get(c.key)
			b.p.evict(c.node)
			e, is := b.x.Evict(c.node)
			if e != want || !is || e.Key != c.key || e.Node != c.node {
				t.Fatalf("Evict(%d) = %+v, %v, want %+v", c.node, e, is, want)
			}
			if e, is := b.x.Get(c.key); e != (api.Entry{}) || is {
				t.Fatalf("Get(%d), evicted, = %+v, %v", c.key, e, is)
			}
			b.state("evicted", c.node, api.Dead)
			if e := b.x.Bury(c.node); e != api.ErrDead {
				t.Fatalf("Bury(%d), evicted, = %d", c.node, e)
			}
			b.whole("evicted")
		})
	}
}

// P16.3: Evict of nodes that are not Alive: a zero, false, and nothing has changed, the entry that their key has anew neither.
func TestEvictOthers(t *testing.T) {
	everyLives(t, func(b both) {
		for range 2 {
			for _, node := range append(notGiven(), 2, 3, 5) {
				if e, is := b.x.Evict(node); e != (api.Entry{}) || is {
					t.Fatalf("Evict(%d) = %+v, %v", node, e, is)
				}
				b.whole("no node that is Alive")
			}
		}
		b.putKeys(1, -1, 0, 2)
		for _, node := range []int{2, 3, 5, 10} {
			if e, is := b.x.Evict(node); e != (api.Entry{}) || is {
				t.Fatalf("Evict(%d) = %+v, %v", node, e, is)
			}
			b.whole("their keys put anew")
		}
		b.evict(7, 8, 9)
		b.whole("evicted by the new nodes")
	})
}

// P16.3: Bury of a node that is Retired is once; it is Dead then, and so is none of the others.
func TestBuryRetired(t *testing.T) {
	everyLives(t, func(b both) {
		b.p.bury(2)
		if e := b.x.Bury(2); e != api.OK {
			t.Fatalf("Bury(2) = %d", e)
		}
		b.state("buried", 2, api.Dead)
		b.whole("buried")
		for range 2 {
			if e := b.x.Bury(2); e != api.ErrDead {
				t.Fatalf("Bury(2) again = %d", e)
			}
			b.whole("buried twice")
		}
	})
}

// P16.3: Bury of nodes that are not Retired: which error, and nothing has changed.
func TestBuryOthers(t *testing.T) {
	everyLives(t, func(b both) {
		for range 2 {
			for _, node := range append(notGiven(), 1, 4, 6) {
				if e := b.x.Bury(node); e != api.ErrNone {
					t.Fatalf("Bury(%d) = %d, want %d", node, e, api.ErrNone)
				}
				b.whole("Never or Alive")
			}
			for _, node := range []int{3, 5} {
				if e := b.x.Bury(node); e != api.ErrDead {
					t.Fatalf("Bury(%d) = %d, want %d", node, e, api.ErrDead)
				}
				b.whole("Dead")
			}
		}
	})
}

// P16.3: Bury of a node whose key was put anew leaves that entry as it is, and so does one that is refused.
func TestBuryLeavesTheNewEntry(t *testing.T) {
	everyLives(t, func(b both) {
		b.put(-1, 77, 9)
		want := api.Entry{Key: -1, Value: 77, Weight: 9, Node: 7}
		for _, wantE := range []api.Errno{api.OK, api.ErrDead} {
			if wantE == api.OK {
				b.p.bury(2)
			}
			if e := b.x.Bury(2); e != wantE {
				t.Fatalf("Bury(2) = %d, want %d", e, wantE)
			}
			if e, is := b.x.Get(-1); e != want || !is {
				t.Fatalf("Get(-1) = %+v, %v, want %+v", e, is, want)
			}
			b.state("its key put anew", 7, api.Alive)
			b.whole("its key put anew")
		}
	})
}

// P16.3: Remove of keys that are there, and of none: what it tells, and the states then; of none, nothing has changed.
func TestRemove(t *testing.T) {
	everyLives(t, func(b both) {
		for _, c := range []struct{ key, node int }{{api.MinInt, 1}, {1, 4}, {api.MaxInt, 6}} {
			want, _ := b.x.Get(c.key)
			b.p.out(c.key, api.Retired)
			if e, is := b.x.Remove(c.key); e != want || !is || e.Node != c.node {
				t.Fatalf("Remove(%d) = %+v, %v, want %+v", c.key, e, is, want)
			}
			b.state("removed", c.node, api.Retired)
			b.whole("removed")
		}
		for _, key := range []int{api.MinInt, -1, 0, 1, 2, api.MaxInt, 3, 4, 5, 6, 7, 1 << 32} {
			if e, is := b.x.Remove(key); e != (api.Entry{}) || is {
				t.Fatalf("Remove(%d) = %+v, %v", key, e, is)
			}
			b.whole("Remove of none")
		}
	})
}

// P16.2, P16.3: nodes are given one by one, and none twice, however the ones before came to an end.
func TestNodesAreGivenOneByOne(t *testing.T) {
	everyMap(t, func(b both) {
		for i := 1; i <= 120; i++ {
			key := testkeys.At(i)
			if i%3 == 0 {
				key = 7
			}
			if old, is := b.x.Get(key); is {
				takeOut(b.x, old)
				b.x.Bury(old.Node * (i % 2))
			}
			e, is := b.x.Put(key, i, i)
			if is || e != (api.Entry{Key: key, Value: i, Weight: i, Node: i}) {
				t.Fatalf("%d tables, seed %d: Put %d = %+v, %v", b.count, b.seed, i, e, is)
			}
			if again, is := b.x.Put(key, i, i); again != e || !is {
				t.Fatalf("%d tables, seed %d: Put %d over it = %+v, %v", b.count, b.seed, i, again, is)
			}
		}
	})
}

// P16.1: All of maps of all kinds is by rising keys, be they put in any order, with both ends among them.
func TestAllByRisingKeys(t *testing.T) {
	keys := []int{api.MinInt, api.MinInt + 1, -1 << 40, -100, -2, -1, 0, 1, 2, 3, 100, 1 << 32, 1 << 40, api.MaxInt - 1, api.MaxInt}
	everyMap(t, func(b both) {
		for _, by := range []int{1, 2, 4, 7, 11, 14} {
			c, have := newBoth(t, b.count, b.seed), []int(nil)
			for i := range keys {
				key := keys[(by+i*by)%len(keys)]
				c.put(key, i, i)
				have = append(have, key)
				slices.Sort(have)
				if got := keysOf(c.x.All()); !slices.Equal(got, have) {
					t.Fatalf("%d tables, seed %d: All has the keys %v, want %v", b.count, b.seed, got, have)
				}
			}
			c.putKeys(3, keys...)
			c.whole("put over")
			first, _ := c.x.Get(api.MinInt)
			c.evict(first.Node)
			c.remove(api.MaxInt, 0)
			want := slices.DeleteFunc(slices.Clone(keys[1:14]), func(key int) bool { return key == 0 })
			if got := keysOf(c.x.All()); !slices.Equal(got, want) {
				t.Fatalf("%d tables, seed %d: All has the keys %v, want %v", b.count, b.seed, got, want)
			}
			c.whole("some taken out")
		}
	})
}

// scribble writes over entries, and their spare room.
func scribble(entries []api.Entry) {
	entries = entries[:cap(entries)]
	for i := range entries {
		entries[i] = api.Entry{Key: -77, Value: -77, Weight: -77, Node: -77}
	}
}

// P16.4: what All answers shares no memory with the map, nor with what it answers again, its spare room neither.
func TestAllIsApart(t *testing.T) {
	everyMap(t, func(b both) {
		for n := range 40 {
			one, two := b.x.All(), b.x.All()
			want := slices.Clone(one)
			scribble(two)
			if !slices.Equal(one, want) {
				t.Fatalf("%d tables, seed %d: one written over, the other is %v, want %v", b.count, b.seed, one, want)
			}
			b.whole("written over")
			scribble(append(b.x.All(), api.Entry{Key: 5}))
			b.whole("one more written behind it")
			b.put(n%11-5, n, n)
			if n%4 == 3 {
				b.remove(n%9 - 5)
				b.evict(n / 3)
			}
			if !slices.Equal(one, want) {
				t.Fatalf("%d tables, seed %d: called behind it, what was answered is %v, want %v", b.count, b.seed, one, want)
			}
		}
	})
}

// P16.4: two maps share nothing, be they of one count and seed.
func TestTwoMapsShareNothing(t *testing.T) {
	everyMap(t, func(one both) {
		two := newBoth(t, one.count, one.seed)
		one.putKeys(0, 1, 2, 3)
		two.whole("the other one put")
		two.putKeys(1, 3, 4)
		one.whole("the other one put")
		one.remove(3)
		two.whole("the other one removed")
		two.evict(1)
		one.whole("the other one evicted")
		one.bury(3)
		two.remove(4)
		one.bury(2)
		two.whole("the other one buried")
		two.bury(2)
		one.put(9, 9, 9)
		one.whole("in the end")
		two.whole("in the end")
	})
}

// call is one of those that change a map.
type call struct {
	what string
	do   func(both)
}

// shortCalls are those of two keys, and of the first three nodes.
func shortCalls() []call {
	calls := []call{
		{"Put 7", func(b both) { b.put(7, 70+len(b.p.states), 3) }},
		{"Put 8", func(b both) { b.put(8, 80+len(b.p.states), 5) }},
		{"Remove 7", func(b both) { b.remove(7) }},
		{"Remove 8", func(b both) { b.remove(8) }},
	}
	for node := 1; node <= 3; node++ {
		calls = append(calls, call{"Evict", func(b both) { b.evict(node) }}, call{"Bury", func(b both) { b.bury(node) }})
	}
	return calls
}

// goesOn tells if a state may come behind another one by one call.
func goesOn(from, to int) bool {
	switch from {
	case to:
		return true
	case api.Never:
		return to == api.Alive
	case api.Alive:
		return to == api.Retired || to == api.Dead
	case api.Retired:
		return to == api.Dead
	}
	return false
}

// stepwise does a call, and holds the states, told by the map alone, to go on by it alone: of one node at most, and no key to have two that are Alive.
func (b both) stepwise(c call) {
	b.t.Helper()
	var from [5]int
	for i := range from {
		from[i] = b.x.State(i + 1)
	}
	c.do(b)
	moved, alive := 0, 0
	for i := range from {
		to := b.x.State(i + 1)
		if !goesOn(from[i], to) {
			b.t.Fatalf("%d tables, seed %d, %s: node %d goes from %d to %d", b.count, b.seed, c.what, i+1, from[i], to)
		}
		if to != from[i] {
			moved++
		}
		if to == api.Alive {
			alive++
		}
	}
	if moved > 1 || alive != b.x.Len() || alive > 2 {
		b.t.Fatalf("%d tables, seed %d, %s: %d states change, %d nodes are Alive, Len %d", b.count, b.seed, c.what, moved, alive, b.x.Len())
	}
	b.states(c.what)
}

// rowOf is the row of so many calls that a number tells.
func rowOf(calls []call, number, length int) []call {
	var row []call
	for range length {
		row = append(row, calls[number%len(calls)])
		number /= len(calls)
	}
	return row
}

// P16.1 to P16.3, P16.5: every row of five calls of two keys and three nodes, in maps of one table, or of some.
func TestEveryShortRow(t *testing.T) {
	calls := shortCalls()
	for number := range 10 * 10 * 10 * 10 * 10 {
		count := 1 + number%3
		b := both{t, New(count, number), newPlain(), tablesOf(count), number}
		for _, c := range rowOf(calls, number, 5) {
			b.stepwise(c)
		}
		b.whole("in the end")
	}
}

// P16.5: rows of many such calls, by chance: states go on alone to the end.
func TestLongRowsOfFewKeys(t *testing.T) {
	calls := shortCalls()
	for _, count := range counts() {
		for seed := range 300 {
			b := both{t, New(count, seed), newPlain(), tablesOf(count), seed}
			pick := chance(seed)
			for range 40 {
				if len(b.p.states) > 4 {
					break
				}
				b.stepwise(calls[pick(len(calls))])
			}
			b.whole("in the end")
		}
	}
}

// chance is numbers from 0 to below k, by turns, that look like chance and are the same each time.
func chance(seed int) func(int) int {
	word := uint64(seed)
	return func(k int) int {
		word = word*6364136223846793005 + 1442695040888963407
		return int(word >> 33 % uint64(k))
	}
}

// oneByChance is a call picked by chance, of about so many keys, and of nodes that were given lately or never.
func (b both) oneByChance(pick func(int) int, keys int) {
	b.t.Helper()
	key := testkeys.At(pick(keys))
	node := len(b.p.states) - pick(2*keys) + 2
	switch pick(10) {
	case 0, 1, 2, 3:
		b.put(key, pick(1000), pick(3000)-1000)
	case 4:
		b.put(key, -pick(1000), 1<<31-500+pick(1000))
	case 5, 6:
		b.remove(key)
	case 7:
		b.evict(node)
	case 8:
		b.bury(node)
	case 9:
		b.get(key, node)
		b.state("asked", node, b.p.state(node))
	}
}

// P16.1 to P16.5: long rows of all calls, by chance.
func TestLongRows(t *testing.T) {
	for _, count := range counts() {
		for _, seed := range ends() {
			for _, keys := range []int{3, 30, 150} {
				b := newBoth(t, count, seed)
				pick := chance(seed ^ keys<<8 ^ count)
				for i := range 600 {
					b.oneByChance(pick, keys)
					if i%60 == 0 {
						b.whole("by chance")
					}
				}
				b.whole("in the end")
			}
		}
	}
}

// P16.6: maps of all counts and seeds answer the same to the same calls.
func TestCountAndSeedDoNotMatter(t *testing.T) {
	var all []*Map
	for _, count := range []int{api.MinInt, 1, 2, 3, 8, 64, api.MaxInt} {
		for _, seed := range append(testkeys.Seeds(), ends()...) {
			all = append(all, New(count, seed))
		}
	}
	pick := chance(16)
	for i := range 1500 {
		kind, key, node, much := pick(6), testkeys.At(pick(60)), pick(i+2), pick(100)-10
		want, wantIs := doOne(all[0], kind, key, node, much)
		for _, x := range all[1:] {
			if got, is := doOne(x, kind, key, node, much); got != want || is != wantIs {
				t.Fatalf("call %d of kind %d, by another map: %+v, %v, want %+v, %v", i, kind, got, is, want, wantIs)
			}
			if i%100 == 99 && !slices.Equal(x.All(), all[0].All()) {
				t.Fatalf("call %d: All = %v, want %v", i, x.All(), all[0].All())
			}
		}
	}
}

// told is all that a call answers, and what there is behind it.
type told struct {
	entry              api.Entry
	err                api.Errno
	state, len, weight int
}

// doOne is one call of a kind.
func doOne(x *Map, kind, key, node, much int) (told, bool) {
	var a told
	is := false
	switch kind {
	case 0, 1:
		a.entry, is = x.Put(key, much, 3*much)
	case 2:
		a.entry, is = x.Remove(key)
	case 3:
		a.entry, is = x.Evict(node)
	case 4:
		a.err = x.Bury(node)
	case 5:
		a.entry, is = x.Get(key)
	}
	a.state, a.len, a.weight = x.State(node), x.Len(), x.Weight()
	return a, is
}

// P16.1 to P16.3: so many keys that all tables grow, put, put over, removed and evicted.
func TestManyKeys(t *testing.T) {
	for _, count := range counts() {
		x, p := New(count, 3), newPlain()
		for i := range 6000 {
			p.put(testkeys.At(i), i, i)
			x.Put(testkeys.At(i), i, i)
		}
		for i := range 3000 {
			p.out(testkeys.At(2*i), api.Retired)
			x.Remove(testkeys.At(2 * i))
			if node := 3 * i; p.state(node) == api.Alive && node%5 == 0 {
				p.evict(node)
				x.Evict(node)
			}
			p.bury(i)
			x.Bury(i)
		}
		b := both{t, x, p, tablesOf(count), 3}
		b.whole("many keys")
	}
}
