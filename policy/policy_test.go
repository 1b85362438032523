package policy

import (
	"slices"
	"testing"

	"pantry/api"
	"pantry/climb"
	"pantry/filter"
	"pantry/mix"
	"pantry/quota"
	"pantry/testkeys"
)

// capacities are those at, beside and beyond both ends, and beside the widest filter; the number beside each is what it is clamped to.
func capacities() [][2]int {
	return [][2]int{
		{api.MinInt, 0}, {-1, 0}, {0, 0}, {1, 1}, {2, 2}, {3, 3}, {10, 10}, {100, 100}, {1000, 1000},
		{1<<16 - 1, 1<<16 - 1}, {1 << 16, 1 << 16}, {1<<16 + 1, 1<<16 + 1}, {1 << 31, 1 << 31},
		{most - 1, most - 1}, {most, most}, {most + 1, most}, {api.MaxInt, most},
	}
}

// noRows are rows that no policy has.
func noRows() []int {
	return []int{api.MinInt, -2, -1, 3, 4, 16, 17, 1 << 32, api.MaxInt}
}

// noNodes are numbers that no node has.
func noNodes() []int {
	return []int{api.MinInt, api.MinInt + 1, -1 << 16, -1, 0, 1<<16 + 1, 1 << 17, 1 << 32, 1<<32 + 1, api.MaxInt}
}

// noDos are what no event does.
func noDos() []int {
	return []int{api.MinInt, -4, -1, 0, 5, 6, 9, 1<<32 + 1, api.MaxInt}
}

// The chapter's example.
func TestExample(t *testing.T) {
	b := newBoth(t, 2, 1)
	b.none(add(1, 7, 1), add(2, 7, 1))
	b.holds([]int{2}, []int{1}, nil)
	b.goes(add(3, 7, 1), 2)
	b.holds([]int{3}, []int{1}, nil)
}

// P11.1: a new policy is empty, with the quota and the climb of its capacity, clamped.
func TestNew(t *testing.T) {
	for _, c := range capacities() {
		for _, seed := range testkeys.Seeds() {
			x := New(c[0], seed)
			if x.Weight() != 0 || x.Quota() != quota.Of(c[1]) || x.Quota().Capacity != c[1] || x.Climb() != climb.New(c[1]) {
				t.Errorf("New(%d, %d): weight %d, %+v, %+v", c[0], seed, x.Weight(), x.Quota(), x.Climb())
			}
			for _, row := range append(noRows(), 0, 1, 2) {
				if got := x.Row(row); len(got) != 0 {
					t.Errorf("New(%d, %d): Row(%d) = %v", c[0], seed, row, got)
				}
			}
			for i := range 40 {
				key := testkeys.At(i)
				if id, is := x.Key(key); id != 0 || is || x.Often(key) != 0 {
					t.Errorf("New(%d, %d): Key(%d) = %d, %v, Often = %d", c[0], seed, key, id, is, x.Often(key))
				}
			}
		}
	}
}

// P11.1: quotas and steps of small capacities, by their numbers.
func TestNewByNumbers(t *testing.T) {
	for _, c := range []struct{ capacity, window, protected, step int }{
		{-1, 0, 0, 1}, {0, 0, 0, 1}, {1, 1, 0, 1}, {2, 1, 1, 1}, {3, 1, 2, 1}, {10, 1, 8, 1}, {100, 1, 80, 6}, {1000, 10, 792, 62},
	} {
		x := New(c.capacity, 1)
		want := api.Quota{Capacity: max(c.capacity, 0), Window: c.window, Protected: c.protected}
		if x.Quota() != want || x.Climb() != (api.Climb{Step: c.step}) {
			t.Errorf("New(%d, 1): %+v, %+v", c.capacity, x.Quota(), x.Climb())
		}
	}
}

// P11.1: Row tells each of the three rows in its order, and none of others.
func TestRow(t *testing.T) {
	b := newBoth(t, 1000, 1)
	b.none(adds(1, 16, 1)...)
	b.none(reads(5, 2)...)
	b.holds([]int{7, 8, 9, 10, 11, 12, 13, 14, 15, 16}, []int{1, 3, 4, 6}, []int{5, 2})
	for _, row := range noRows() {
		if got := b.x.Row(row); len(got) != 0 {
			t.Errorf("Row(%d) = %v", row, got)
		}
	}
}

// keyIs tells of a node that is in a row its key.
func (b both) keyIs(id, key int) {
	b.t.Helper()
	if got, is := b.x.Key(id); got != key || !is {
		b.t.Errorf("Key(%d) = %d, %v, want %d", id, got, is, key)
	}
}

func (b both) noKey(ids ...int) {
	b.t.Helper()
	for _, id := range ids {
		if key, is := b.x.Key(id); key != 0 || is {
			b.t.Errorf("Key(%d) = %d, %v, want none", id, key, is)
		}
	}
}

// P11.1: Key of nodes in each of the rows, of such as went or were removed, and of numbers that no node has.
func TestKey(t *testing.T) {
	b := newBoth(t, 2, 1)
	b.none(add(1, api.MinInt, 1), add(2, -5, 1))
	b.goes(add(3, api.MaxInt, 1), 2)
	b.keyIs(1, api.MinInt)
	b.keyIs(3, api.MaxInt)
	b.noKey(2)
	b.none(read(1))
	b.keyIs(1, api.MinInt)
	b.none(add(1<<16, 0, 0), remove(3))
	b.keyIs(1<<16, 0)
	b.noKey(3, 2, 4)
	b.noKey(noNodes()...)
	b.none(add(2, 6, 0), add(3, 6, 0))
	b.keyIs(2, 6)
	b.keyIs(3, 6)
}

// P11.1: Often is that of a filter of the capacity, clamped, and of the seed, that recorded the keys of adds, reads and updates.
func TestOften(t *testing.T) {
	for _, c := range capacities() {
		for _, seed := range testkeys.Seeds() {
			x, f := New(c[0], seed), filter.New(within(c[0], 1, 1<<16), seed)
			for i := range 400 {
				key := testkeys.At(i % 90)
				play(t, x, add(1, key, 0), read(1), api.Event{Do: api.DoUpdate, Node: 1, Key: key + 1, Weight: 0})
				play(t, x, api.Event{Do: api.DoRemove, Node: 1, Key: key, Weight: 7})
				f.Record(key)
				f.Record(key)
				f.Record(key)
			}
			for i := range 400 {
				if key := testkeys.At(i); x.Often(key) != f.Often(key) {
					t.Fatalf("New(%d, %d): Often(%d) = %d, want %d", c[0], seed, key, x.Often(key), f.Often(key))
				}
			}
		}
	}
}

// play hands events to a policy, of which none is refused, and none has to go.
func play(t *testing.T, x *Policy, l ...api.Event) {
	t.Helper()
	for _, e := range l {
		if gone, err := x.Do(e); err != api.OK || gone != nil {
			t.Fatalf("Do(%+v) = %v, %v, want none, OK", e, gone, err)
		}
	}
}

// P11.1: how often keys came that came, by numbers, and that did not.
func TestOftenByNumbers(t *testing.T) {
	b := newBoth(t, 1000, 1)
	b.none(add(1, 10, 1), add(2, 20, 1), add(3, 10, 1), read(1), update(2, 5), remove(1), remove(2))
	for key, want := range map[int]int{10: 3, 20: 2, 0: 0, 1: 0, 30: 0, -10: 0, api.MinInt: 0, api.MaxInt: 0} {
		if got := b.x.Often(key); got != want {
			t.Errorf("Often(%d) = %d, want %d", key, got, want)
		}
	}
}

// P11.2: an add at the limits of nodes, and beyond them.
func TestAddOfNodes(t *testing.T) {
	for _, c := range capacities() {
		b := newBoth(t, c[0], 1)
		for _, id := range noNodes() {
			b.refuses(api.ErrArg, add(id, 7, 0))
		}
		b.none(add(1, 7, 0), add(1<<16, 8, 0), add(2, 9, 0), add(1<<16-1, 10, 0))
		b.holds([]int{1, 1 << 16, 2, 1<<16 - 1}, nil, nil)
	}
}

// P11.2: an add at the limits of weights, and beyond them: those that all nodes have, and that of the capacity.
func TestAddOfWeights(t *testing.T) {
	for _, c := range capacities() {
		limit := min(c[1], 1<<31)
		for _, weight := range []int{api.MinInt, -1 << 31, -2, -1} {
			newBoth(t, c[0], 1).refuses(api.ErrArg, add(1, 7, weight))
		}
		for _, weight := range []int{limit + 1, limit + 2, 1<<31 + 1, 1 << 32, c[1] + 1, most, api.MaxInt} {
			if weight > limit {
				newBoth(t, c[0], 1).refuses(api.ErrTooHeavy, add(1, 7, weight))
			}
		}
		for _, weight := range []int{0, limit / 2, limit} {
			b := newBoth(t, c[0], 1)
			b.none(add(1, 7, weight))
			if b.x.Weight() != weight {
				t.Errorf("capacity %d: weight %d, want %d", c[0], b.x.Weight(), weight)
			}
		}
	}
}

// threeRows are both, of a capacity of 1000, with nodes in each row: 8 and 9 in the window, 1 to 3 in probation, 4 to 6 in protected; 7 was removed, and 10 went.
func threeRows(t *testing.T) both {
	t.Helper()
	b := newBoth(t, 1000, 1)
	b.none(adds(1, 7, 100)...)
	b.none(reads(4, 5, 6)...)
	b.none(adds(8, 9, 4)...)
	b.none(remove(7))
	b.goes(add(10, 100, 1000), 10)
	b.none(remove(8), remove(9))
	b.none(adds(8, 9, 4)...)
	b.holds([]int{8, 9}, []int{1, 2, 3}, []int{4, 5, 6})
	return b
}

// P11.2: an add of a node that is in a row, be it any row; of one that went, or was removed, it is none.
func TestAddTwice(t *testing.T) {
	b := threeRows(t)
	for _, id := range []int{1, 2, 3, 4, 5, 6, 8, 9} {
		b.refuses(api.ErrTwice, add(id, 10*id, 1))
		b.refuses(api.ErrTwice, add(id, 5, 0))
		b.refuses(api.ErrTwice, add(id, 5, 1000))
	}
	b.none(add(7, 5, 1), add(10, 5, 1))
	b.holds([]int{8, 9, 7, 10}, []int{1, 2, 3}, []int{4, 5, 6})
}

// P11.2: what reads, updates and removes of a node that is in no row tell: one that was never added, that went, that was removed, and numbers that no node has.
func TestNone(t *testing.T) {
	b := threeRows(t)
	for _, id := range append(noNodes(), 7, 10, 11, 1<<16) {
		b.refuses(api.ErrNone, read(id))
		b.refuses(api.ErrNone, update(id, 1))
		b.refuses(api.ErrNone, remove(id))
	}
	b = newBoth(t, 0, 1)
	for _, id := range append(noNodes(), 1, 2) {
		b.refuses(api.ErrNone, read(id))
		b.refuses(api.ErrNone, update(id, 0))
		b.refuses(api.ErrNone, remove(id))
	}
}

// P11.2: an update to weights that may not be, of nodes in each row.
func TestUpdateOfWeights(t *testing.T) {
	b := threeRows(t)
	for _, id := range []int{1, 3, 4, 6, 8, 9} {
		for _, weight := range []int{-1, -2, -1 << 31, api.MinInt} {
			b.refuses(api.ErrArg, update(id, weight))
		}
		for _, weight := range []int{1001, 1002, 1 << 31, 1<<31 + 1, most, api.MaxInt} {
			b.refuses(api.ErrTooHeavy, update(id, weight))
		}
	}
	for _, c := range capacities() {
		limit := min(c[1], 1<<31)
		b := newBoth(t, c[0], 1)
		b.none(add(1, 7, 0))
		b.refuses(api.ErrArg, update(1, -1))
		b.refuses(api.ErrTooHeavy, update(1, limit+1))
		b.none(update(1, limit))
		if b.x.Weight() != limit {
			t.Errorf("capacity %d: weight %d, want %d", c[0], b.x.Weight(), limit)
		}
		b.none(update(1, 0))
	}
}

// P11.2: what no event does is refused, whatever else it tells.
func TestNoDo(t *testing.T) {
	b := threeRows(t)
	for _, do := range noDos() {
		for _, id := range []int{api.MinInt, 0, 1, 4, 7, 8, 10, 11, 1 << 16, 1<<16 + 1} {
			for _, weight := range []int{api.MinInt, -1, 0, 1, 1001, api.MaxInt} {
				b.refuses(api.ErrArg, api.Event{Do: do, Node: id, Key: 5, Weight: weight})
			}
		}
	}
}

// P11.2, W4: of several errors at once the one that the chapter names first.
func TestSeveralErrors(t *testing.T) {
	b := threeRows(t)
	for _, id := range noNodes() {
		for _, weight := range []int{api.MinInt, -1, 1001, 1<<31 + 1, api.MaxInt} {
			b.refuses(api.ErrArg, add(id, 5, weight))
			b.refuses(api.ErrNone, update(id, weight))
		}
	}
	for _, id := range []int{1, 4, 8} {
		b.refuses(api.ErrArg, add(id, 5, -1))
		b.refuses(api.ErrArg, add(id, 5, api.MinInt))
		b.refuses(api.ErrTooHeavy, add(id, 5, 1001))
		b.refuses(api.ErrTooHeavy, add(id, 5, 1<<31+1))
		b.refuses(api.ErrTooHeavy, add(id, 5, api.MaxInt))
	}
	for _, id := range []int{7, 10, 11, 1 << 16} {
		b.refuses(api.ErrArg, add(id, 5, -1))
		b.refuses(api.ErrTooHeavy, add(id, 5, 1001))
		b.refuses(api.ErrNone, update(id, -1))
		b.refuses(api.ErrNone, update(id, 1001))
	}
}

// P11.2: reads and removes do not ask for a key or a weight; what they are handed of these changes nothing, nor does an update's key.
func TestFieldsThatAreNotAsked(t *testing.T) {
	for _, weight := range []int{api.MinInt, -1, 0, 1001, 1<<31 + 1, api.MaxInt} {
		b := threeRows(t)
		b.none(api.Event{Do: api.DoRead, Node: 1, Key: 55, Weight: weight})
		b.none(api.Event{Do: api.DoUpdate, Node: 2, Key: 55, Weight: 100})
		b.none(api.Event{Do: api.DoRemove, Node: 8, Key: 55, Weight: weight})
		b.holds([]int{9}, []int{3}, []int{4, 5, 6, 1, 2})
		b.keyIs(1, 10)
		b.keyIs(2, 20)
		if b.x.Often(55) != 0 || b.x.Weight() != 604 {
			t.Errorf("Often(55) = %d, weight %d, want 0, 604", b.x.Often(55), b.x.Weight())
		}
	}
}

// P11.2: an add records its key, counts a miss, and its node is the window's last.
func TestAdd(t *testing.T) {
	b := newBoth(t, 1000, 1)
	for n, e := range adds(1, 10, 1) {
		b.none(e)
		if b.x.Climb() != (api.Climb{Misses: n + 1, Step: 62}) || b.x.Often(e.Key) != 1 {
			t.Errorf("add %d: %+v, Often(%d) = %d", n+1, b.x.Climb(), e.Key, b.x.Often(e.Key))
		}
	}
	b.holds([]int{1, 2, 3, 4, 5, 6, 7, 8, 9, 10}, nil, nil)
}

// P11.2: the window weighs more than its quota by one node, by several, by all; just as much is not more.
func TestWindowSettles(t *testing.T) {
	b := newBoth(t, 1000, 1)
	b.none(adds(1, 10, 1)...)
	b.holds([]int{1, 2, 3, 4, 5, 6, 7, 8, 9, 10}, nil, nil)
	b.none(add(11, 110, 1))
	b.holds([]int{2, 3, 4, 5, 6, 7, 8, 9, 10, 11}, []int{1}, nil)
	b.none(add(12, 120, 5))
	b.holds([]int{7, 8, 9, 10, 11, 12}, []int{1, 2, 3, 4, 5, 6}, nil)
	b.none(add(13, 130, 0))
	b.holds([]int{7, 8, 9, 10, 11, 12, 13}, []int{1, 2, 3, 4, 5, 6}, nil)
	b.none(add(14, 140, 11))
	b.holds(nil, []int{1, 2, 3, 4, 5, 6, 7, 8, 9, 10, 11, 12, 13, 14}, nil)
}

// P11.2: the candidate's key is not Better than the victim's, as it came as often, is the same, or came less often: the candidate goes.
func TestCandidateGoes(t *testing.T) {
	b := newBoth(t, 1000, 1)
	b.none(adds(1, 3, 300)...)
	b.goes(add(4, 40, 500), 4)
	b.goes(add(5, 10, 500), 5)
	b.goes(add(6, 60, 500), 6)
	b.holds(nil, []int{1, 2, 3}, nil)
}

// P11.2: the candidate's key is Better than the victim's: the victim goes; then the candidate is held against the next one.
func TestVictimGoes(t *testing.T) {
	b := newBoth(t, 1000, 1)
	b.none(add(9, 90, 0), read(9), remove(9))
	b.none(adds(1, 3, 300)...)
	b.goes(add(4, 90, 400), 1)
	b.holds(nil, []int{2, 3, 4}, nil)
	b.goes(add(5, 90, 700), 2, 3, 5)
	b.holds(nil, []int{4}, nil)
}

// P11.2: several go in one call, in their order: victims alone, a victim and then the candidate, and candidates from the last back.
func TestSeveralGo(t *testing.T) {
	b := newBoth(t, 1000, 1)
	b.none(add(99, 130, 0), read(99), read(99), remove(99))
	b.none(adds(1, 11, 1)...)
	b.none(add(12, 120, 5))
	b.goes(add(13, 130, 1000), 1, 2, 3, 4, 5, 6, 7, 8, 9, 10, 11, 12)
	b.holds(nil, []int{13}, nil)

	b = newBoth(t, 1000, 1)
	b.none(add(99, 20, 0), read(99), read(99), remove(99), add(99, 30, 0), remove(99))
	b.none(adds(1, 2, 400)...)
	b.goes(add(3, 30, 1000), 1, 3)
	b.holds(nil, []int{2}, nil)

	b = newBoth(t, 1000, 1)
	b.none(add(5, 50, 600), read(5))
	b.none(adds(1, 4, 100)...)
	b.goes(update(5, 792), 4, 3)
	b.holds(nil, []int{1, 2}, []int{5})
}

// P11.2: what is in the window by then does not go, as long as probation has one.
func TestWindowStays(t *testing.T) {
	b := newBoth(t, 1000, 1)
	b.none(adds(1, 9, 1)...)
	b.none(add(10, 100, 991))
	b.holds(nil, []int{1, 2, 3, 4, 5, 6, 7, 8, 9, 10}, nil)
	b.goes(add(11, 110, 1000), 11)
	b.goes(add(12, 120, 1), 10)
	b.holds([]int{12}, []int{1, 2, 3, 4, 5, 6, 7, 8, 9}, nil)
}

// P11.2: victim and candidate are one: it goes, however often it came.
func TestVictimIsCandidate(t *testing.T) {
	b := newBoth(t, 1000, 1)
	b.none(add(1, 10, 600), read(1))
	b.goes(add(2, 20, 500), 2)
	b.holds(nil, nil, []int{1})
	b.none(add(2, 20, 1), read(2), read(2), read(2))
	b.goes(update(2, 1000), 2)
	b.holds(nil, nil, []int{1})
}

// byHand is a policy whose rows no event leads to: window and protected, held to their quotas, weigh no more than the capacity together, so that probation is never empty where one has to go.
func byHand(q api.Quota, rows [3][]int, weight int) *Policy {
	x := New(q.Capacity, 1)
	x.quota = q
	for row, ids := range rows {
		for _, id := range ids {
			x.rows.Push(row, id, weight)
			x.keys[id] = 10 * id
		}
	}
	return x
}

// P11.2: probation is empty: the first of protected goes; protected is empty too: the first of the window.
func TestProbationIsEmpty(t *testing.T) {
	for _, c := range []struct {
		rows [3][]int
		gone []int
		left [3][]int
	}{
		{[3][]int{nil, nil, {1, 2, 3, 4}}, []int{1, 2}, [3][]int{nil, nil, {3, 4}}},
		{[3][]int{{5, 6}, nil, {1, 2}}, []int{1, 2}, [3][]int{{5, 6}, nil, nil}},
		{[3][]int{{5, 6, 7}, nil, {2}}, []int{2, 5}, [3][]int{{6, 7}, nil, nil}},
		{[3][]int{{7, 6, 5}, nil, nil}, []int{7}, [3][]int{{6, 5}, nil, nil}},
		{[3][]int{{7, 6}, {5}, {4}}, []int{5, 4}, [3][]int{{7, 6}, nil, nil}},
	} {
		x := byHand(api.Quota{Capacity: 10, Window: 100, Protected: 100}, c.rows, 5)
		gone := x.settle()
		if !slices.Equal(gone, c.gone) || x.Weight() != 10 {
			t.Errorf("%v: %v go, weight %d, want %v, 10", c.rows, gone, x.Weight(), c.gone)
		}
		for row := range 3 {
			if !slices.Equal(x.Row(row), c.left[row]) {
				t.Errorf("%v: the row %d is %v, want %v", c.rows, row, x.Row(row), c.left[row])
			}
		}
		for _, id := range gone {
			if key, is := x.Key(id); key != 0 || is {
				t.Errorf("%v: %d went, and has the key %d", c.rows, id, key)
			}
		}
	}
}

// P11.2: a node of weight 0 goes too, where it is candidate or victim.
func TestWeightlessGo(t *testing.T) {
	b := newBoth(t, 100, 1)
	b.none(add(1, 10, 60), read(1), add(3, 30, 40), add(2, 20, 0))
	b.goes(add(5, 50, 2), 5)
	b.holds(nil, []int{3, 2}, []int{1})
	b.goes(update(1, 80), 2, 3)

	b = newBoth(t, 100, 1)
	b.none(add(9, 30, 0), remove(9))
	b.none(add(1, 10, 60), read(1), add(2, 20, 0), add(3, 30, 40))
	b.holds(nil, []int{2, 3}, []int{1})
	b.goes(update(1, 80), 2, 3)
}

// P11.2: a read moves a node of probation to protected, and others to their row's end; it records the node's key, and counts a hit.
func TestRead(t *testing.T) {
	b := threeRows(t)
	before := b.x.Climb()
	b.none(read(2))
	b.holds([]int{8, 9}, []int{1, 3}, []int{4, 5, 6, 2})
	b.none(read(8))
	b.holds([]int{9, 8}, []int{1, 3}, []int{4, 5, 6, 2})
	b.none(read(5))
	b.holds([]int{9, 8}, []int{1, 3}, []int{4, 6, 2, 5})
	b.none(read(5), read(8), read(1), read(3))
	b.holds([]int{9, 8}, nil, []int{4, 6, 2, 5, 1, 3})
	after := before
	after.Hits += 7
	if b.x.Climb() != after || b.x.Often(50) != 4 || b.x.Often(20) != 2 {
		t.Errorf("%+v, Often(50) = %d, Often(20) = %d, want %+v, 4, 2", b.x.Climb(), b.x.Often(50), b.x.Often(20), after)
	}
}

// P11.2: a read of probation, after which protected weighs more than its quota by one, by several, or by the node itself.
func TestReadOverProtected(t *testing.T) {
	b := newBoth(t, 1000, 1)
	b.none(adds(1, 4, 200)...)
	b.none(reads(1, 2, 3, 4)...)
	b.holds(nil, []int{1}, []int{2, 3, 4})

	b = newBoth(t, 1000, 1)
	b.none(adds(1, 3, 200)...)
	b.none(add(4, 40, 400))
	b.none(reads(1, 2, 3, 4)...)
	b.holds(nil, []int{1, 2}, []int{3, 4})

	b = newBoth(t, 1000, 1)
	b.none(add(1, 10, 100), add(2, 20, 100), add(3, 30, 793))
	b.none(reads(1, 2, 3)...)
	b.holds(nil, []int{1, 2, 3}, nil)

	b = newBoth(t, 1000, 1)
	b.none(add(1, 10, 100), add(2, 20, 692), read(1), read(2))
	b.holds(nil, nil, []int{1, 2})
}

// P11.2: an update of a window's node to less, the same and more weight: it is the window's last then, which settles.
func TestUpdateOfWindow(t *testing.T) {
	b := newBoth(t, 1000, 1)
	b.none(adds(1, 5, 2)...)
	b.none(update(1, 1))
	b.holds([]int{2, 3, 4, 5, 1}, nil, nil)
	b.none(update(3, 2))
	b.holds([]int{2, 4, 5, 1, 3}, nil, nil)
	b.none(update(4, 3))
	b.holds([]int{2, 5, 1, 3, 4}, nil, nil)
	b.none(update(2, 7))
	b.holds([]int{4, 2}, []int{5, 1, 3}, nil)
	b.none(update(2, 987))
	b.holds(nil, []int{5, 1, 3, 4, 2}, nil)
	if b.x.Climb() != (api.Climb{Hits: 5, Misses: 5, Step: 62}) || b.x.Often(20) != 3 || b.x.Weight() != 995 {
		t.Errorf("%+v, Often(20) = %d, weight %d", b.x.Climb(), b.x.Often(20), b.x.Weight())
	}
}

// P11.2: an update of probation's node: it is protected's last then, if protected may weigh as much; then it settles.
func TestUpdateOfProbation(t *testing.T) {
	for _, c := range []struct {
		weight                     int
		gone, probation, protected []int
	}{
		{0, nil, []int{1, 3}, []int{4, 5, 6, 2}},
		{99, nil, []int{1, 3}, []int{4, 5, 6, 2}},
		{100, nil, []int{1, 3}, []int{4, 5, 6, 2}},
		{101, nil, []int{1, 3}, []int{4, 5, 6, 2}},
		{492, nil, []int{1, 3}, []int{4, 5, 6, 2}},
		{493, nil, []int{1, 3, 4}, []int{5, 6, 2}},
		{500, nil, []int{1, 3, 4}, []int{5, 6, 2}},
		{501, []int{1}, []int{3, 4}, []int{5, 6, 2}},
		{600, []int{1}, []int{3, 4, 5}, []int{6, 2}},
		{792, []int{1, 3, 6}, []int{4, 5}, []int{2}},
		{793, []int{1, 3, 2}, []int{4, 5, 6}, nil},
		{1000, []int{1, 3, 2}, []int{4, 5, 6}, nil},
	} {
		b := newBoth(t, 1000, 1)
		b.none(adds(1, 6, 100)...)
		b.none(reads(4, 5, 6)...)
		b.goes(update(2, c.weight), c.gone...)
		b.holds(nil, c.probation, c.protected)
		if b.x.Climb() != (api.Climb{Hits: 4, Misses: 6, Step: 62}) || b.x.Often(20) != 2 {
			t.Errorf("update to %d: %+v, Often(20) = %d", c.weight, b.x.Climb(), b.x.Often(20))
		}
	}
}

// P11.2: an update of protected's node: it is protected's last then; where protected weighs more than its quota by it, its first are moved to probation, which may be the node itself.
func TestUpdateOfProtected(t *testing.T) {
	for _, c := range []struct {
		weight                     int
		gone, probation, protected []int
	}{
		{0, nil, nil, []int{1, 3, 2}},
		{199, nil, nil, []int{1, 3, 2}},
		{200, nil, nil, []int{1, 3, 2}},
		{201, nil, nil, []int{1, 3, 2}},
		{392, nil, nil, []int{1, 3, 2}},
		{393, nil, []int{1}, []int{3, 2}},
		{592, nil, []int{1}, []int{3, 2}},
		{593, nil, []int{1, 3}, []int{2}},
		{600, nil, []int{1, 3}, []int{2}},
		{601, []int{3}, []int{1}, []int{2}},
		{792, []int{3}, []int{1}, []int{2}},
		{793, []int{1}, []int{3, 2}, nil},
		{900, []int{1, 3}, []int{2}, nil},
	} {
		b := newBoth(t, 1000, 1)
		b.none(adds(1, 3, 200)...)
		b.none(reads(1, 2, 3)...)
		b.goes(update(2, c.weight), c.gone...)
		b.holds(nil, c.probation, c.protected)
	}
}

// P11.2: a remove takes a node out of its row, whichever it is in; it counts nothing, records nothing, and moves no other.
func TestRemove(t *testing.T) {
	for _, c := range []struct {
		id, weight                   int
		window, probation, protected []int
	}{
		{8, 604, []int{9}, []int{1, 2, 3}, []int{4, 5, 6}},
		{9, 604, []int{8}, []int{1, 2, 3}, []int{4, 5, 6}},
		{1, 508, []int{8, 9}, []int{2, 3}, []int{4, 5, 6}},
		{2, 508, []int{8, 9}, []int{1, 3}, []int{4, 5, 6}},
		{6, 508, []int{8, 9}, []int{1, 2, 3}, []int{4, 5}},
	} {
		b := threeRows(t)
		before := told(b.x)
		b.none(remove(c.id))
		b.holds(c.window, c.probation, c.protected)
		after := told(b.x)
		if after.weight != c.weight || after.climb != before.climb || after.quota != before.quota || !slices.Equal(after.often, before.often) {
			t.Errorf("remove of %d: %+v, before: %+v", c.id, after, before)
		}
		b.refuses(api.ErrNone, remove(c.id))
		b.none(add(c.id, 5, 1))
		b.holds(append(slices.Clone(c.window), c.id), c.probation, c.protected)
	}
}

// repeat is an event, so many times.
func repeat(e api.Event, times int) []api.Event { return slices.Repeat([]api.Event{e}, times) }

// misses are so many adds of a node that weighs nothing and is removed each time.
func misses(times int) []api.Event {
	return slices.Repeat([]api.Event{add(99, 990, 0), remove(99)}, times)
}

// turned tells how a climb and a quota are.
func (b both) turned(c api.Climb, window, protected int) {
	b.t.Helper()
	want := api.Quota{Capacity: b.p.quota.Capacity, Window: window, Protected: protected}
	if b.x.Climb() != c || b.x.Quota() != want {
		b.t.Fatalf("%+v, %+v, want %+v, %+v", b.x.Climb(), b.x.Quota(), c, want)
	}
}

// P11.2: the climb turns at the last of a period's hits and misses, be it a hit or a miss, and not ahead of it.
func TestTurn(t *testing.T) {
	b := newBoth(t, 10, 1)
	b.none(add(1, 10, 1))
	b.none(repeat(read(1), 98)...)
	b.turned(api.Climb{Hits: 98, Misses: 1, Step: 1}, 1, 8)
	b.none(read(1))
	b.turned(api.Climb{Last: 64880, Step: 1}, 2, 7)
	b.none(repeat(read(1), 99)...)
	b.turned(api.Climb{Hits: 99, Last: 64880, Step: 1}, 2, 7)
	b.none(update(1, 1))
	b.turned(api.Climb{Last: 65536}, 3, 6)
}

// P11.2: the climb turns behind misses alone, and behind hits and misses, up and down.
func TestTurnOfMisses(t *testing.T) {
	b := newBoth(t, 10, 1)
	b.none(misses(99)...)
	b.turned(api.Climb{Misses: 99, Step: 1}, 1, 8)
	b.none(add(1, 10, 1))
	b.turned(api.Climb{}, 2, 7)
	b.none(misses(100)...)
	b.turned(api.Climb{}, 2, 7)
	b.none(misses(1)...)
	b.none(repeat(read(1), 99)...)
	b.turned(api.Climb{Last: 64880, Step: 1}, 2, 7)
	b.none(repeat(read(1), 50)...)
	b.none(misses(50)...)
	b.turned(api.Climb{Last: 32768, Step: -1}, 1, 8)
	b.none(misses(100)...)
	b.turned(api.Climb{Last: 0, Step: 1}, 2, 7)
}

// P11.2: a turn that makes protected's quota less moves its first to probation; of an add this is ahead of the settling, whose window has the new quota.
func TestTurnOfAnAdd(t *testing.T) {
	b := newBoth(t, 10, 1)
	b.none(adds(1, 9, 1)...)
	b.none(reads(1, 2, 3, 4, 5, 6, 7, 8)...)
	b.none(repeat(read(9), 82)...)
	b.holds([]int{9}, nil, []int{1, 2, 3, 4, 5, 6, 7, 8})
	b.turned(api.Climb{Hits: 90, Misses: 9, Step: 1}, 1, 8)
	b.none(add(10, 100, 1))
	b.turned(api.Climb{Last: 58982, Step: 1}, 2, 7)
	b.holds([]int{9, 10}, []int{1}, []int{2, 3, 4, 5, 6, 7, 8})
}

// P11.2: a read that turns holds protected to its old quota first, and to the new one then; it does not settle the window, nor do removes, and other reads: an update does.
func TestTurnOfARead(t *testing.T) {
	b := newBoth(t, 10, 1)
	b.none(adds(1, 9, 1)...)
	b.none(reads(1, 2, 3, 4, 5, 6, 7, 8)...)
	b.none(repeat(read(9), 82)...)
	b.none(add(10, 100, 1))
	b.none(misses(20)...)
	b.none(repeat(read(9), 79)...)
	b.turned(api.Climb{Hits: 79, Misses: 20, Last: 58982, Step: 1}, 2, 7)
	b.none(read(1))
	b.turned(api.Climb{Last: 52428, Step: -1}, 1, 8)
	b.holds([]int{10, 9}, []int{2}, []int{3, 4, 5, 6, 7, 8, 1})
	b.none(remove(8), read(9), read(3))
	b.holds([]int{10, 9}, []int{2}, []int{4, 5, 6, 7, 1, 3})
	b.none(update(5, 1))
	b.holds([]int{9}, []int{2, 10}, []int{4, 6, 7, 1, 3, 5})
}

// P11.2: an update that turns: the window is settled to the quota that it has then.
func TestTurnOfAnUpdate(t *testing.T) {
	b := newBoth(t, 100, 1)
	b.none(adds(1, 2, 1)...)
	b.none(repeat(read(2), 997)...)
	b.holds([]int{2}, []int{1}, nil)
	b.none(update(2, 7))
	b.turned(api.Climb{Last: 65404, Step: 6}, 7, 75)
	b.holds([]int{2}, []int{1}, nil)
	b.none(misses(101)...)
	b.none(repeat(read(2), 898)...)
	b.none(update(2, 2))
	b.turned(api.Climb{Last: 58916, Step: -6}, 1, 80)
	b.holds(nil, []int{1, 2}, nil)
}

// P11.2: a period is ten times the capacity, clamped to 1 to MaxWidth.
func TestPeriod(t *testing.T) {
	for _, c := range []struct{ capacity, period int }{
		{api.MinInt, 10}, {-1, 10}, {0, 10}, {1, 10}, {2, 20}, {3, 30}, {17, 170}, {100, 1000},
		{1<<16 - 1, 655350}, {1 << 16, 655360}, {1<<16 + 1, 655360}, {most, 655360}, {api.MaxInt, 655360},
	} {
		x := New(c.capacity, 1)
		play(t, x, add(1, 10, 0))
		for range c.period - 2 {
			x.Do(read(1))
		}
		if got := x.Climb(); got.Hits != c.period-2 || got.Misses != 1 || x.Quota() != quota.Of(c.capacity) {
			t.Errorf("capacity %d: %+v, %+v ahead of the period's last", c.capacity, got, x.Quota())
		}
		play(t, x, read(1))
		far := climb.New(c.capacity).Step
		if got := x.Climb(); got.Hits != 0 || got.Misses != 0 || x.Quota() != quota.Shift(quota.Of(c.capacity), far) {
			t.Errorf("capacity %d: %+v, %+v behind the period's last", c.capacity, got, x.Quota())
		}
	}
}

// P11.2: the greatest weights and the greatest capacity: all weigh what they do, and the window has its hundredth.
func TestGreatest(t *testing.T) {
	b := newBoth(t, api.MaxInt, 1)
	for id := 1; id <= 40; id++ {
		b.none(add(id, id, 1<<31))
	}
	if b.x.Weight() != 40<<31 || len(b.x.Row(0)) != 40 {
		t.Errorf("weight %d, a window of %d", b.x.Weight(), len(b.x.Row(0)))
	}
	b = newBoth(t, 3<<31, 1)
	b.none(add(1, 10, 1<<31), add(2, 20, 1<<31), read(1), add(3, 30, 1<<31))
	b.holds(nil, []int{2, 3}, []int{1})
	b.goes(add(4, 40, 1), 3)
	b.goes(add(5, 20, 1<<31-1))
	b.goes(add(6, 20, 1<<31), 6)
}

// P11.3: of no events, and of a nil list, none had to go, and nothing has changed.
func TestPlayOfNone(t *testing.T) {
	b := threeRows(t)
	before := told(b.x)
	for _, l := range [][]api.Event{nil, {}, make([]api.Event, 0, 9)} {
		if gone := b.x.Play(l); len(gone) != 0 || !told(b.x).is(before) {
			t.Errorf("Play(%v) = %v, %+v, before: %+v", l, gone, told(b.x), before)
		}
	}
}

// P11.3: who had to go of all, in their order; errors in between are passed over.
func TestPlay(t *testing.T) {
	x := New(1000, 1)
	l := append(adds(1, 3, 300), add(4, 40, 500), add(4, 40, -1), add(0, 40, 1), add(3, 30, 300), read(4), remove(9), update(1, 1001), add(5, 50, 1001))
	l = append(l, api.Event{Do: 9, Node: 1}, api.Event{}, remove(2), update(2, 1), add(6, 10, 1000), read(3))
	if gone := x.Play(l); !slices.Equal(gone, []int{4, 6}) {
		t.Errorf("Play = %v, want 4, 6", gone)
	}
	l = []api.Event{add(7, 70, 200), add(1, 10, 1), add(8, 80, 200), read(2), update(3, 700), add(9, 90, 1)}
	if gone := x.Play(l); !slices.Equal(gone, []int{8, 7, 1}) {
		t.Errorf("Play of more = %v, want 8, 7, 1", gone)
	}
	for _, e := range []api.Event{{}, {Do: 9}, read(50), add(0, 0, 0), add(1, 0, -1)} {
		before := told(x)
		if gone := x.Play([]api.Event{e, e}); len(gone) != 0 || !told(x).is(before) {
			t.Errorf("Play of %+v = %v", e, gone)
		}
	}
}

// mixedEvent is one of a row of events, alike to chance: of so many nodes, with weights up to heaviest and beyond; some tell errors. Low keys come more often.
func mixedEvent(seed, i, nodes, heaviest int) api.Event {
	h := mix.Mix(seed, i)
	key := int(h >> 20 % 64 * (h >> 26 % 64) / 64)
	e := api.Event{Node: 1 + int(h>>8%uint64(nodes)), Key: key - 3, Weight: int(h >> 32 % uint64(heaviest+2))}
	switch n := h % 32; {
	case n < 14:
		e.Do = api.DoAdd
	case n < 24:
		e.Do = api.DoRead
	case n < 28:
		e.Do = api.DoUpdate
	case n < 30:
		e.Do = api.DoRemove
	default:
		e.Do, e.Node, e.Weight = int(h>>40%7)-1, e.Node-1, e.Weight-1
	}
	return e
}

func mixedEvents(seed, length, nodes, heaviest int) []api.Event {
	l := make([]api.Event, length)
	for i := range l {
		l[i] = mixedEvent(seed, i, nodes, heaviest)
	}
	return l
}

// P11.3: Play does what Do of each does, from wherever it begins.
func TestPlayAsDo(t *testing.T) {
	for seed, capacity := range []int{-1, 0, 1, 2, 3, 10, 17, 100, 1000} {
		x, y, from := New(capacity, seed), New(capacity, seed), 0
		l := mixedEvents(seed, 3000, 40, within(capacity, 1, 50))
		for n := 0; from < len(l); n++ {
			to := min(len(l), from+n)
			var want []int
			for _, e := range l[from:to] {
				gone, _ := y.Do(e)
				want = append(want, gone...)
			}
			if gone := x.Play(l[from:to]); !slices.Equal(gone, want) || !told(x).is(told(y)) {
				t.Fatalf("capacity %d: Play of %d to %d = %v, want %v", capacity, from, to, gone, want)
			}
			from = to
		}
	}
}

// fill writes over a list, and over its spare room.
func fill(l []int) {
	l = l[:cap(l)]
	for i := range l {
		l[i] = -7
	}
}

// P11.4: the list that is handed in is as it was, its spare room too; nor is it kept.
func TestHandedIn(t *testing.T) {
	for n := range 60 {
		whole := mixedEvents(n, 80, 12, 4)
		x, y := New(5, n), New(5, n)
		l := whole[10:50]
		if gone := x.Play(l); !slices.Equal(gone, y.Play(mixedEvents(n, 80, 12, 4)[10:50])) {
			t.Fatalf("%v: another time others go", gone)
		}
		if !slices.Equal(whole, mixedEvents(n, 80, 12, 4)) {
			t.Fatalf("%d: another list of events", n)
		}
		clear(whole)
		if !told(x).is(told(y)) {
			t.Fatalf("%d: changed with the list", n)
		}
		x.Play(mixedEvents(n, 200, 12, 4))
		y.Play(mixedEvents(n, 200, 12, 4))
		if !told(x).is(told(y)) {
			t.Fatalf("%d: changed with the list, later", n)
		}
	}
}

// P11.4: what is answered is new memory: written over, it changes nothing, nor another answer.
func TestAnswersAreNew(t *testing.T) {
	b := threeRows(t)
	for row := range 3 {
		one, other := b.x.Row(row), b.x.Row(row)
		want := slices.Clone(one)
		fill(one)
		if !slices.Equal(other, want) || !slices.Equal(b.x.Row(row), want) {
			t.Errorf("the row %d: %v, %v, want %v", row, other, b.x.Row(row), want)
		}
	}
	for n := range 40 {
		b := newBoth(t, 20, n)
		var kept, copies [][]int
		for i := range 300 {
			e := mixedEvent(n, i, 15, 20)
			gone, _ := b.do(e)
			kept, copies = append(kept, gone), append(copies, slices.Clone(gone))
			fill(b.x.Row(i % 3))
			b.same(e)
		}
		for i := range kept {
			if !slices.Equal(kept[i], copies[i]) {
				t.Fatalf("%d: what event %d answered is %v, was %v", n, i, kept[i], copies[i])
			}
			fill(kept[i])
		}
		b.same(api.Event{})
	}
	x, y := New(20, 1), New(20, 1)
	for n := range 30 {
		fill(x.Play(mixedEvents(n, 40, 15, 20)))
		y.Play(mixedEvents(n, 40, 15, 20))
		if !told(x).is(told(y)) {
			t.Fatalf("changed with what Play %d answered", n)
		}
	}
}

// ledger is who was added, with what weight now, and neither went nor was removed.
type ledger struct {
	t       *testing.T
	x       *Policy
	weights map[int]int
}

// do hands an event to the policy, and holds what it tells to what P11.5 and P11.7 say.
func (l ledger) do(e api.Event) {
	l.t.Helper()
	before, was := l.weights[e.Node]
	gone, err := l.x.Do(e)
	switch {
	case err != api.OK:
	case e.Do == api.DoAdd || e.Do == api.DoUpdate:
		l.weights[e.Node] = e.Weight
	case e.Do == api.DoRemove:
		delete(l.weights, e.Node)
	}
	may := e.Do == api.DoAdd || e.Do == api.DoUpdate && was && e.Weight > before
	if len(gone) > 0 && (err != api.OK || !may) {
		l.t.Fatalf("Do(%+v) = %v, %v: none may go", e, gone, err)
	}
	for _, id := range gone {
		if _, is := l.weights[id]; !is {
			l.t.Fatalf("Do(%+v): %d went, and was not there, or went twice", e, id)
		}
		delete(l.weights, id)
	}
	l.holds(e)
}

func (l ledger) holds(e api.Event) {
	l.t.Helper()
	sum, seen := 0, map[int]int{}
	for row := range 3 {
		for _, id := range l.x.Row(row) {
			seen[id]++
			sum += l.weights[id]
		}
	}
	for id := range l.weights {
		if _, is := l.x.Key(id); seen[id] != 1 || !is {
			l.t.Fatalf("behind %+v: %d is in %d rows", e, id, seen[id])
		}
	}
	if len(seen) != len(l.weights) {
		l.t.Fatalf("behind %+v: %d are in rows, want %d", e, len(seen), len(l.weights))
	}
	if l.x.Weight() != sum || sum > l.x.Quota().Capacity || !quota.Right(l.x.Quota()) {
		l.t.Fatalf("behind %+v: weight %d, want %d, of %+v", e, l.x.Weight(), sum, l.x.Quota())
	}
}

// P11.5, P11.7: behind each event all weigh at most the capacity, each node is in one row, or went, or was removed; who goes was there, and only of an add, or an update to more weight.
func TestLedger(t *testing.T) {
	for seed, capacity := range []int{api.MinInt, -1, 0, 1, 2, 3, 5, 10, 16, 31, 100, 1000} {
		for _, nodes := range []int{1, 3, 12, 60} {
			for _, heaviest := range []int{0, 1, within(capacity, 0, 1000) / 4, within(capacity, 0, 1000)} {
				l := ledger{t, New(capacity, seed), map[int]int{}}
				for i := range 2500 {
					l.do(mixedEvent(seed+nodes, i, nodes, heaviest))
				}
			}
		}
	}
}

// P11.1 to P11.7: a policy goes with the plain one, event by event, across many turns.
func TestAsThePlainOne(t *testing.T) {
	for _, capacity := range []int{-1, 0, 1, 2, 3, 4, 7, 10, 16, 25, 60, 100, 1000} {
		for _, seed := range testkeys.Seeds() {
			for _, heaviest := range []int{1, within(capacity, 1, 1000) / 3, within(capacity, 1, 1000)} {
				b := newBoth(t, capacity, seed)
				for i := range 1500 {
					b.do(mixedEvent(seed, i, 3+within(capacity, 1, 60)*3/2, heaviest))
				}
			}
		}
	}
}

// P11.6: where all that is ever added weighs no more than the capacity together, be it just as much, none goes, whatever is read, removed and made lighter.
func TestNoneGoesWhereAllFits(t *testing.T) {
	for _, capacity := range []int{0, 1, 2, 3, 10, 16, 100, 1000, 5 << 31, most} {
		for seed := range 8 {
			x, left, weights := New(capacity, seed), capacity, map[int]int{}
			for i := range 2500 {
				e := mixedEvent(seed, i, 30, min(capacity, 1<<31))
				if e.Weight = min(e.Weight, left, 1<<31); i%3 > 0 {
					e.Weight = min(e.Weight, 1+capacity/40)
				}
				if e.Do == api.DoUpdate {
					e.Weight = min(e.Weight, weights[e.Node])
				}
				gone, err := x.Do(e)
				if len(gone) > 0 {
					t.Fatalf("capacity %d, seed %d: %v go of %+v", capacity, seed, gone, e)
				}
				if err == api.OK && e.Do == api.DoAdd {
					left -= e.Weight
				}
				if err == api.OK && (e.Do == api.DoAdd || e.Do == api.DoUpdate) {
					weights[e.Node] = e.Weight
				}
			}
			if left > 0 && capacity < 1<<20 {
				t.Errorf("capacity %d, seed %d: %d are left", capacity, seed, left)
			}
		}
	}
}

// P11.7: where all weigh just the capacity, none goes of a read, a remove, or an update to the same or less weight, across turns; of one to more, one does.
func TestNoneGoesOfLess(t *testing.T) {
	for seed := range 5 {
		b := newBoth(t, 10, seed)
		b.none(adds(1, 10, 1)...)
		for i := range 1500 {
			h := mix.Mix(seed, i)
			e := read(1 + int(h>>8%10))
			if h%3 == 0 {
				e = update(e.Node, 1)
			}
			b.none(e)
		}
		if b.x.Weight() != 10 {
			t.Fatalf("seed %d: weight %d", seed, b.x.Weight())
		}
		if gone, err := b.do(update(b.x.Row(0)[0], 2)); err != api.OK || len(gone) == 0 {
			t.Errorf("seed %d: %v, %v: none goes of more", seed, gone, err)
		}
		for _, id := range b.x.Row(1) {
			b.none(update(id, 0))
		}
		for id := 1; id <= 10; id++ {
			if _, is := b.x.Key(id); is {
				b.none(remove(id))
			}
		}
		b.holds(nil, nil, nil)
	}
}

// W2: policies share nothing, and do the same of the same events.
func TestPoliciesAreApart(t *testing.T) {
	x, y, p := New(10, 3), New(10, 3), newPlain(10, 3)
	first := mixedEvents(1, 700, 20, 4)
	for _, e := range first {
		x.Do(e)
		p.do(e)
	}
	if !told(y).is(told(New(10, 3))) {
		t.Error("the other policy changed")
	}
	y.Play(first)
	if !told(x).is(told(y)) {
		t.Error("two do not the same of the same events")
	}
	y.Play(mixedEvents(2, 700, 20, 4))
	both{t, x, p}.same(api.Event{})
}
