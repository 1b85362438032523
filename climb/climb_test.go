package climb

import (
	"math/big"
	"slices"
	"testing"

	"pantry/api"
	"pantry/mix"
	"pantry/quota"
)

// Of what the chapter names: the most that a cache holds, and the most that a climb counts of hits, or of misses.
const (
	most     = 1<<62 - 1
	mostHits = 1 << 40
)

func climbOf(hits, misses, last, step int) api.Climb {
	return api.Climb{Hits: hits, Misses: misses, Last: last, Step: step}
}

// capacities are those at, beside and beyond the ends, and where a sixteenth of them is rounded.
func capacities() []int {
	return []int{
		api.MinInt, api.MinInt + 1, -most, -160, -16, -1, 0, 1, 2, 15, 16, 17, 31, 32, 33, 160, 1599, 1600, 1601,
		1 << 32, most - 1, most, most + 1, most + 2, api.MaxInt - 1, api.MaxInt,
	}
}

// counts are hits, or misses, at, beside and beyond their ends.
func counts() []int {
	return []int{api.MinInt, -mostHits, -1, 0, 1, 2, 10, mostHits - 1, mostHits, mostHits + 1, api.MaxInt}
}

// lasts are rates at, beside and beyond their ends, and a jump beside some that counts have.
func lasts() []int {
	return []int{
		api.MinInt, -65536, -1, 0, 1, 3276, 3277, 29491, 29492, 32767, 32768, 32769, 36044, 36045,
		62259, 62260, 65535, 65536, 65537, 1 << 32, api.MaxInt,
	}
}

// steps are those at, beside and beyond their ends, and where hundredth parts of them are rounded.
func steps() []int {
	return []int{
		api.MinInt, api.MinInt + 1, -most - 1, -most, -most + 1, -1 << 32, -151, -100, -51, -50, -49, -2, -1,
		0, 1, 2, 49, 50, 51, 99, 100, 101, 151, 1 << 32, 94116041192395671, 94116041192395672, most - 1, most, most + 1, api.MaxInt,
	}
}

func within(n, low, high int) int {
	if n < low {
		return low
	}
	if n > high {
		return high
	}
	return n
}

// plainClamped is what the chapter says of fields, in its own words.
func plainClamped(c api.Climb) api.Climb {
	return climbOf(within(c.Hits, 0, mostHits), within(c.Misses, 0, mostHits), within(c.Last, 0, 65536), within(c.Step, -most, most))
}

func plainFirst(capacity int) int {
	n := within(capacity, 0, most) / 16
	if n < 1 {
		return 1
	}
	return n
}

func plainCount(c api.Climb, hit bool) api.Climb {
	c = plainClamped(c)
	if hit {
		c.Hits = within(c.Hits+1, 0, mostHits)
		return c
	}
	c.Misses = within(c.Misses+1, 0, mostHits)
	return c
}

func plainDue(c api.Climb, period int) bool {
	c = plainClamped(c)
	if period < 1 {
		return false
	}
	return c.Hits+c.Misses >= period
}

// partOf is n times up, divided by down, rounded toward 0, with a product of any length.
func partOf(n, up, down int) int {
	x := new(big.Int).Mul(big.NewInt(int64(n)), big.NewInt(int64(up)))
	return int(x.Quo(x, big.NewInt(int64(down))).Int64())
}

func plainRate(c api.Climb) int {
	c = plainClamped(c)
	if c.Hits+c.Misses == 0 {
		return 0
	}
	return partOf(c.Hits, 65536, c.Hits+c.Misses)
}

// jumps tells whether the rate of c is just a jump above or below its last one, or farther.
func jumps(c api.Climb) bool {
	c = plainClamped(c)
	return plainRate(c) >= c.Last+3277 || plainRate(c) <= c.Last-3277
}

// plainTurn is what the chapter says of a turn, in its own words.
func plainTurn(c api.Climb, capacity int) (api.Climb, int) {
	c = plainClamped(c)
	far := c.Step
	if !(plainRate(c) >= c.Last) {
		far = 0 - c.Step
	}
	if !jumps(c) {
		return climbOf(0, 0, plainRate(c), partOf(far, 98, 100)), far
	}
	step := plainFirst(capacity)
	if far < 0 {
		step = 0 - step
	}
	return climbOf(0, 0, plainRate(c), step), far
}

// plainPlay is what the chapter says of playing, in its own words.
func plainPlay(capacity, period int, hits []bool) (api.Climb, api.Quota) {
	c, q := climbOf(0, 0, 0, plainFirst(capacity)), quota.Of(capacity)
	for _, hit := range hits {
		c = plainCount(c, hit)
		if plainDue(c, period) {
			var far int
			c, far = plainTurn(c, capacity)
			q = quota.Shift(q, far)
		}
	}
	return c, q
}

// turned holds a turn against what is wanted of it.
func turned(t *testing.T, c api.Climb, capacity int, want api.Climb, wantFar int) {
	t.Helper()
	if got, far := Turn(c, capacity); got != want || far != wantFar {
		t.Errorf("Turn(%+v, %d) = %+v, %d, want %+v, %d", c, capacity, got, far, want, wantFar)
	}
}

// played holds a play against what is wanted of it, and tells of its quota that it is right.
func played(t *testing.T, capacity, period int, hits []bool, want api.Climb, wantQuota api.Quota) {
	t.Helper()
	c, q := Play(capacity, period, hits)
	if c != want || q != wantQuota {
		t.Errorf("Play(%d, %d, %d hits) = %+v, %+v, want %+v, %+v", capacity, period, len(hits), c, q, want, wantQuota)
	}
	if !quota.Right(q) {
		t.Errorf("Play(%d, %d, %d hits): %+v is not right", capacity, period, len(hits), q)
	}
}

// asPlain holds a play against the plain one.
func asPlain(t *testing.T, capacity, period int, hits []bool) {
	t.Helper()
	c, q := plainPlay(capacity, period, hits)
	played(t, capacity, period, hits, c, q)
}

// rounds are so many hits of each round, and misses then, so that as many as a period has are there in all.
func rounds(period int, hits ...int) []bool {
	var all []bool
	for _, n := range hits {
		for i := range period {
			all = append(all, i < n)
		}
	}
	return all
}

// rowOf is the row of hits and misses that the lowest bits of n are.
func rowOf(n, length int) []bool {
	all := make([]bool, length)
	for i := range all {
		all[i] = n>>i&1 == 1
	}
	return all
}

// mixedRow is a long row, as alike to chance as words of keys are.
func mixedRow(seed, length int) []bool {
	all := make([]bool, length)
	for i := range all {
		all[i] = mix.Mix(seed, i)%8 < 8-mix.Mix(seed, i/500)%8
	}
	return all
}

// eachClimb goes over climbs of all counts, rates and steps.
func eachClimb(do func(c api.Climb)) {
	for _, hits := range counts() {
		for _, misses := range counts() {
			for _, last := range lasts() {
				for _, step := range steps() {
					do(climbOf(hits, misses, last, step))
				}
			}
		}
	}
}

// The chapter's example.
func TestExample(t *testing.T) {
	turned(t, climbOf(1, 1, 0, 5), 160, climbOf(0, 0, 32768, 10), 5)
}

// P10.1: the capacities that the chapter names.
func TestNew(t *testing.T) {
	for _, c := range []struct{ capacity, step int }{
		{api.MinInt, 1}, {-1600, 1}, {-1, 1}, {0, 1}, {1, 1}, {3, 1}, {15, 1}, {16, 1}, {17, 1}, {31, 1}, {32, 2}, {33, 2}, {47, 2}, {48, 3},
		{160, 10}, {1599, 99}, {1600, 100}, {1 << 32, 1 << 28},
		{most - 15, 1<<58 - 1}, {most, 1<<58 - 1}, {most + 1, 1<<58 - 1}, {api.MaxInt, 1<<58 - 1},
	} {
		if got := New(c.capacity); got != climbOf(0, 0, 0, c.step) {
			t.Errorf("New(%d) = %+v, want a step of %d", c.capacity, got, c.step)
		}
	}
	for _, capacity := range capacities() {
		if got := New(capacity); got != climbOf(0, 0, 0, plainFirst(capacity)) {
			t.Errorf("New(%d) = %+v", capacity, got)
		}
	}
}

// P10.1: hits and misses each by themselves, up to 2^40; all fields are clamped first.
func TestCount(t *testing.T) {
	for _, c := range []struct {
		c    api.Climb
		hit  bool
		want api.Climb
	}{
		{climbOf(0, 0, 0, 0), true, climbOf(1, 0, 0, 0)},
		{climbOf(0, 0, 0, 0), false, climbOf(0, 1, 0, 0)},
		{climbOf(3, 5, 7, -9), true, climbOf(4, 5, 7, -9)},
		{climbOf(3, 5, 7, -9), false, climbOf(3, 6, 7, -9)},
		{climbOf(mostHits-1, 2, 0, 0), true, climbOf(mostHits, 2, 0, 0)},
		{climbOf(mostHits, 2, 0, 0), true, climbOf(mostHits, 2, 0, 0)},
		{climbOf(mostHits, 2, 0, 0), false, climbOf(mostHits, 3, 0, 0)},
		{climbOf(mostHits+1, 2, 0, 0), true, climbOf(mostHits, 2, 0, 0)},
		{climbOf(mostHits+1, 2, 0, 0), false, climbOf(mostHits, 3, 0, 0)},
		{climbOf(2, mostHits-1, 0, 0), false, climbOf(2, mostHits, 0, 0)},
		{climbOf(2, mostHits, 0, 0), false, climbOf(2, mostHits, 0, 0)},
		{climbOf(2, mostHits, 0, 0), true, climbOf(3, mostHits, 0, 0)},
		{climbOf(mostHits, mostHits, 0, 0), true, climbOf(mostHits, mostHits, 0, 0)},
		{climbOf(-1, -1, -1, -1), true, climbOf(1, 0, 0, -1)},
		{climbOf(-1, -1, -1, -1), false, climbOf(0, 1, 0, -1)},
		{climbOf(api.MinInt, api.MinInt, api.MinInt, api.MinInt), true, climbOf(1, 0, 0, -most)},
		{climbOf(api.MinInt, api.MinInt, api.MinInt, api.MinInt), false, climbOf(0, 1, 0, -most)},
		{climbOf(api.MaxInt, api.MaxInt, api.MaxInt, api.MaxInt), true, climbOf(mostHits, mostHits, 65536, most)},
		{climbOf(0, 0, 65537, most+1), false, climbOf(0, 1, 65536, most)},
		{climbOf(0, 0, 65536, -most), false, climbOf(0, 1, 65536, -most)},
	} {
		if got := Count(c.c, c.hit); got != c.want {
			t.Errorf("Count(%+v, %v) = %+v, want %+v", c.c, c.hit, got, c.want)
		}
	}
	eachClimb(func(c api.Climb) {
		for _, hit := range []bool{true, false} {
			if got := Count(c, hit); got != plainCount(c, hit) {
				t.Errorf("Count(%+v, %v) = %+v, want %+v", c, hit, got, plainCount(c, hit))
			}
		}
	})
}

// P10.1: periods beside 0, at both ends, and as many as there are hits and misses, and one more.
func TestDue(t *testing.T) {
	for _, c := range []struct {
		hits, misses, period int
		want                 bool
	}{
		{0, 0, 0, false}, {0, 0, 1, false}, {0, 0, -1, false}, {0, 0, api.MinInt, false},
		{1, 0, 1, true}, {0, 1, 1, true}, {1, 0, 2, false}, {0, 1, 2, false}, {1, 1, 2, true}, {2, 0, 2, true}, {0, 2, 2, true}, {1, 1, 3, false},
		{3, 5, 7, true}, {3, 5, 8, true}, {3, 5, 9, false}, {3, 5, 1, true}, {3, 5, 0, false}, {3, 5, -8, false}, {3, 5, api.MinInt, false}, {3, 5, api.MaxInt, false},
		{mostHits, mostHits, 1 << 41, true}, {mostHits, mostHits, 1<<41 + 1, false}, {mostHits - 1, mostHits, 1 << 41, false},
		{api.MaxInt, api.MaxInt, 1 << 41, true}, {api.MaxInt, api.MaxInt, 1<<41 + 1, false}, {mostHits + 1, 0, mostHits + 1, false}, {0, mostHits + 1, mostHits + 1, false},
		{-1, 3, 3, true}, {api.MinInt, 3, 3, true}, {3, -1, 3, true}, {3, api.MinInt, 3, true}, {3, -1, 4, false}, {-5, -5, 1, false},
	} {
		if got := Due(climbOf(c.hits, c.misses, 9, 9), c.period); got != c.want {
			t.Errorf("Due of %d hits, %d misses, and %d: %v", c.hits, c.misses, c.period, got)
		}
	}
	eachClimb(func(c api.Climb) {
		all := plainClamped(c).Hits + plainClamped(c).Misses
		for _, period := range []int{api.MinInt, -all, -1, 0, 1, 2, all - 1, all, all + 1, api.MaxInt} {
			if got := Due(c, period); got != plainDue(c, period) {
				t.Errorf("Due(%+v, %d) = %v", c, period, got)
			}
		}
	})
}

// P10.1: none, only hits, only misses, and as many as there may be.
func TestRate(t *testing.T) {
	for _, c := range []struct{ hits, misses, want int }{
		{0, 0, 0}, {-1, -1, 0}, {api.MinInt, api.MinInt, 0},
		{1, 0, 65536}, {7, 0, 65536}, {mostHits, 0, 65536}, {mostHits, -1, 65536}, {api.MaxInt, api.MinInt, 65536},
		{0, 1, 0}, {0, 7, 0}, {0, mostHits, 0}, {-1, mostHits, 0}, {api.MinInt, api.MaxInt, 0},
		{1, 1, 32768}, {1, 2, 21845}, {2, 1, 43690}, {1, 9, 6553}, {9, 1, 58982}, {1, 65535, 1}, {1, 65536, 0}, {65535, 1, 65535}, {65536, 1, 65535},
		{mostHits, mostHits, 32768}, {mostHits + 1, mostHits, 32768}, {mostHits, mostHits + 1, 32768}, {api.MaxInt, api.MaxInt, 32768},
		{mostHits - 1, mostHits, 32767}, {mostHits, mostHits - 1, 32768}, {1, mostHits, 0}, {mostHits, 1, 65535},
	} {
		if got := Rate(climbOf(c.hits, c.misses, 9, 9)); got != c.want {
			t.Errorf("Rate of %d hits, %d misses = %d, want %d", c.hits, c.misses, got, c.want)
		}
	}
	eachClimb(func(c api.Climb) {
		if got := Rate(c); got != plainRate(c) {
			t.Errorf("Rate(%+v) = %d, want %d", c, got, plainRate(c))
		}
	})
}

// P10.2: rates above the last, the same, and below it, by less than a jump: it goes on, or back, and steps less far the next time.
func TestTurnWithoutJump(t *testing.T) {
	for _, c := range []struct {
		last, step int
		far, next  int
	}{
		{32768, 50, 50, 49}, {32767, 50, 50, 49}, {32769, 50, -50, -49}, {33000, 50, -50, -49},
		{32768 - 3276, 50, 50, 49}, {32768 + 3276, 50, -50, -49},
		{32768, -50, -50, -49}, {32769, -50, 50, 49}, {32768 - 3276, -50, -50, -49}, {32768 + 3276, -50, 50, 49},
		{32768, 1, 1, 0}, {32769, 1, -1, 0}, {32768, -1, -1, 0}, {32769, -1, 1, 0}, {32768, 0, 0, 0}, {32769, 0, 0, 0},
		{32768, 49, 49, 48}, {32768, 51, 51, 49}, {32768, 99, 99, 97}, {32768, 100, 100, 98}, {32768, 101, 101, 98}, {32768, 149, 149, 146}, {32768, 1000, 1000, 980},
		{32768, -49, -49, -48}, {32768, -51, -51, -49}, {32768, -99, -99, -97}, {32768, -100, -100, -98}, {32768, -101, -101, -98}, {32768, -149, -149, -146},
		{32768, most, most, 4519452298058840144}, {32769, most, -most, -4519452298058840144},
		{32768, most + 1, most, 4519452298058840144}, {32768, api.MaxInt, most, 4519452298058840144}, {32769, api.MaxInt, -most, -4519452298058840144},
		{32768, -most, -most, -4519452298058840144}, {32768, -most - 1, -most, -4519452298058840144}, {32768, api.MinInt, -most, -4519452298058840144},
		{32769, api.MinInt, most, 4519452298058840144},
		{32768, 94116041192395672, 94116041192395672, 92233720368547758}, // the least whose product does not fit
	} {
		for _, capacity := range capacities() {
			turned(t, climbOf(1, 1, c.last, c.step), capacity, climbOf(0, 0, 32768, c.next), c.far)
		}
	}
}

// P10.2: rates just a jump above or below the last, and farther: the first step again, up or down as it goes now, up of 0.
func TestTurnWithJump(t *testing.T) {
	for _, c := range []struct {
		hits, misses, last, step int
		far, next                int
	}{
		{1, 1, 32768 - 3277, 50, 50, 100}, {1, 1, 32768 + 3277, 50, -50, -100}, {1, 1, 32768 - 3277, -50, -50, -100}, {1, 1, 32768 + 3277, -50, 50, 100},
		{1, 1, 32768 - 3278, 50, 50, 100}, {1, 1, 32768 + 3278, 50, -50, -100}, {1, 1, 0, 50, 50, 100}, {1, 1, 65536, 50, -50, -100},
		{1, 1, 0, 0, 0, 100}, {1, 1, 65536, 0, 0, 100}, {1, 1, 32768 - 3277, 0, 0, 100}, {1, 1, 32768 + 3277, 0, 0, 100},
		{1, 1, 0, 1, 1, 100}, {1, 1, 0, -1, -1, -100}, {1, 1, 65536, 1, -1, -100}, {1, 1, 65536, -1, 1, 100}, {1, 1, 0, 100, 100, 100}, {1, 1, 0, 5000, 5000, 100},
		{1, 1, -1, 50, 50, 100}, {1, 1, api.MinInt, 50, 50, 100}, {1, 1, 65537, 50, -50, -100}, {1, 1, api.MaxInt, 50, -50, -100},
		{1, 1, 0, most + 1, most, 100}, {1, 1, 0, api.MinInt, -most, -100}, {1, 1, 65536, api.MinInt, most, 100}, {1, 1, 65536, api.MaxInt, -most, -100},
		{0, 1, 3277, 50, -50, -100}, {0, 1, 65536, 50, -50, -100}, {0, 0, 3277, 50, -50, -100}, {0, 0, 3277, -50, 50, 100}, {-1, api.MinInt, 3277, 50, -50, -100},
		{1, 0, 65536 - 3277, 50, 50, 100}, {1, 0, 0, -50, -50, -100}, {mostHits, mostHits, 32768 - 3277, 50, 50, 100}, {api.MaxInt, api.MaxInt, 32768 + 3277, 50, -50, -100},
	} {
		rate := plainRate(climbOf(c.hits, c.misses, 0, 0))
		turned(t, climbOf(c.hits, c.misses, c.last, c.step), 1600, climbOf(0, 0, rate, c.next), c.far)
	}
}

// P10.2: without a jump at either end of rates, where a last rate that is clamped is held against.
func TestTurnAtTheEndsOfRates(t *testing.T) {
	turned(t, climbOf(0, 0, 0, 50), 1600, climbOf(0, 0, 0, 49), 50)
	turned(t, climbOf(0, 0, -1, 50), 1600, climbOf(0, 0, 0, 49), 50)
	turned(t, climbOf(0, 5, api.MinInt, 50), 1600, climbOf(0, 0, 0, 49), 50)
	turned(t, climbOf(0, 5, 1, 50), 1600, climbOf(0, 0, 0, -49), -50)
	turned(t, climbOf(0, 0, 3276, 50), 1600, climbOf(0, 0, 0, -49), -50)
	turned(t, climbOf(5, 0, 65536, 50), 1600, climbOf(0, 0, 65536, 49), 50)
	turned(t, climbOf(5, 0, 65537, 50), 1600, climbOf(0, 0, 65536, 49), 50)
	turned(t, climbOf(5, 0, api.MaxInt, 50), 1600, climbOf(0, 0, 65536, 49), 50)
	turned(t, climbOf(5, 0, 65535, 50), 1600, climbOf(0, 0, 65536, 49), 50)
	turned(t, climbOf(5, 0, 65536-3276, 50), 1600, climbOf(0, 0, 65536, 49), 50)
	turned(t, climbOf(1, 0, 65536, -1), 1600, climbOf(0, 0, 65536, 0), -1)
}

// P10.2: the first step after a jump is that of the capacity, clamped.
func TestTurnOfCapacities(t *testing.T) {
	for _, c := range []struct{ capacity, first int }{
		{api.MinInt, 1}, {-1600, 1}, {-1, 1}, {0, 1}, {1, 1}, {15, 1}, {16, 1}, {31, 1}, {32, 2}, {160, 10}, {1600, 100},
		{most, 1<<58 - 1}, {most + 1, 1<<58 - 1}, {api.MaxInt, 1<<58 - 1},
	} {
		turned(t, climbOf(1, 1, 0, 5), c.capacity, climbOf(0, 0, 32768, c.first), 5)
		turned(t, climbOf(1, 1, 0, -5), c.capacity, climbOf(0, 0, 32768, -c.first), -5)
		turned(t, climbOf(1, 1, 65536, 5), c.capacity, climbOf(0, 0, 32768, -c.first), -5)
	}
}

// P10.2, P10.5: every climb, at all ends, with every capacity in turn: as the chapter says, and no step grows but by a jump, nor beyond the first step then.
func TestTurnOfAll(t *testing.T) {
	all, n := capacities(), 0
	eachClimb(func(c api.Climb) {
		capacity := all[n%len(all)]
		n++
		want, far := plainTurn(c, capacity)
		turned(t, c, capacity, want, far)
		noGreater(t, c, capacity)
	})
}

// noGreater tells of one turn what P10.5 says of steps.
func noGreater(t *testing.T, c api.Climb, capacity int) {
	t.Helper()
	next, far := Turn(c, capacity)
	step, before := max(next.Step, -next.Step), plainClamped(c).Step
	if jumps(c) && step != plainFirst(capacity) {
		t.Errorf("Turn(%+v, %d): a step of %d behind a jump", c, capacity, next.Step)
	}
	if !jumps(c) && step > max(before, -before) {
		t.Errorf("Turn(%+v, %d): the step grew to %d", c, capacity, next.Step)
	}
	if far != before && far != -before {
		t.Errorf("Turn(%+v, %d): how far: %d", c, capacity, far)
	}
}

// P10.3: no hits, a nil list, and periods that never end or are more than there are hits: nothing turns.
func TestPlayOfNoTurn(t *testing.T) {
	for _, capacity := range capacities() {
		first, of := climbOf(0, 0, 0, plainFirst(capacity)), quota.Of(capacity)
		for _, period := range []int{api.MinInt, -1, 0, 1, 2, 10, api.MaxInt} {
			played(t, capacity, period, nil, first, of)
			played(t, capacity, period, []bool{}, first, of)
		}
		hits := []bool{true, false, true, true}
		for _, period := range []int{api.MinInt, -4, -1, 0, 5, 10, 1 << 41, api.MaxInt} {
			want := first
			want.Hits, want.Misses = 3, 1
			played(t, capacity, period, hits, want, of)
		}
	}
}

// P10.3: turns of all periods that are named, counted by hand.
func TestPlay(t *testing.T) {
	hits := []bool{true, true, true, true}
	played(t, 1600, 2, hits, climbOf(0, 0, 65536, 98), quota.Shift(quota.Of(1600), 200))
	played(t, 1600, 2, hits[:3], climbOf(1, 0, 65536, 100), quota.Shift(quota.Of(1600), 100))
	played(t, 1600, 2, hits[:2], climbOf(0, 0, 65536, 100), quota.Shift(quota.Of(1600), 100))
	played(t, 1600, 2, hits[:1], climbOf(1, 0, 0, 100), quota.Of(1600))
	played(t, 1600, 1, hits, climbOf(0, 0, 65536, 94), quota.Shift(quota.Of(1600), 100+100+98+96))
	played(t, 1600, 4, hits, climbOf(0, 0, 65536, 100), quota.Shift(quota.Of(1600), 100))
	played(t, 1600, 3, hits, climbOf(1, 0, 65536, 100), quota.Shift(quota.Of(1600), 100))
	played(t, 1600, 1, []bool{false, false}, climbOf(0, 0, 0, 96), quota.Shift(quota.Of(1600), 198))
	played(t, 1600, 1, []bool{true, false}, climbOf(0, 0, 0, -100), quota.Of(1600))
	played(t, 1600, 10, rounds(10, 5, 5), climbOf(0, 0, 32768, 98), quota.Shift(quota.Of(1600), 200))
	played(t, 1600, 10, rounds(10, 5, 4), climbOf(0, 0, 26214, -100), quota.Of(1600))
	played(t, 0, 1, hits, climbOf(0, 0, 65536, 0), quota.Of(0))
	played(t, 10, 1, hits, climbOf(0, 0, 65536, 0), quota.Shift(quota.Of(10), 2))
	played(t, most+1, 4, hits, climbOf(0, 0, 65536, 1<<58-1), quota.Shift(quota.Of(most), 1<<58-1))
}

// P10.3: a quota is shifted turn by turn, so that what an end cuts away is not gone back.
func TestPlayOverAnEnd(t *testing.T) {
	hits := []bool{true, false, true, false} // 16, then 116, 16, 1 and 101
	played(t, 1600, 1, hits[:3], climbOf(0, 0, 65536, -100), api.Quota{Capacity: 1600, Window: 1, Protected: 1280})
	played(t, 1600, 1, hits, climbOf(0, 0, 0, 100), api.Quota{Capacity: 1600, Window: 101, Protected: 1200})
	_, q := Play(1600, 1, make([]bool, 200))
	if q.Window != 1280 {
		t.Errorf("200 steps up: %+v", q)
	}
}

// P10.3, P10.5: every row of twelve hits and misses, of all periods that are named, on small capacities and on great ones.
func TestPlayOfAll(t *testing.T) {
	for n := range 1 << 12 {
		hits := rowOf(n, 12)
		for _, period := range []int{api.MinInt, -1, 0, 1, 2, 3, 4, 10, 12, 13} {
			asPlain(t, 1600, period, hits)
			asPlain(t, capacities()[n%len(capacities())], period, hits)
		}
	}
}

// P10.3, P10.5: long rows, and many beginnings of them.
func TestPlayOfLongRows(t *testing.T) {
	for seed := range 6 {
		hits := mixedRow(seed, 3000)
		for _, capacity := range []int{-1, 0, 1, 15, 31, 160, 1600, most, api.MaxInt} {
			for _, period := range []int{1, 2, 10, 97} {
				for n := seed; n <= len(hits); n += 211 {
					asPlain(t, capacity, period, hits[:n])
				}
				asPlain(t, capacity, period, hits)
				stepsOf(t, capacity, period, hits[:500])
			}
		}
	}
}

// stepsOf tells of one row, hit by hit, what P10.5 says of steps: none is beyond the first step, and only a jump makes one greater than it was.
func stepsOf(t *testing.T, capacity, period int, hits []bool) {
	t.Helper()
	last, length := 0, plainFirst(capacity)
	for n := range len(hits) + 1 {
		c, q := Play(capacity, period, hits[:n])
		step := max(c.Step, -c.Step)
		jump := c.Last-last >= 3277 || last-c.Last >= 3277
		if step > plainFirst(capacity) || step > length && !jump || !quota.Right(q) {
			t.Fatalf("Play(%d, %d, %d hits) = %+v, %+v: a step of %d behind %d", capacity, period, n, c, q, step, length)
		}
		last, length = c.Last, step
	}
}

// P10.4: the list that is handed in is as it was, its spare room too; climbs are handed in as values.
func TestHandedIn(t *testing.T) {
	for n := range 1 << 9 {
		whole := rowOf(n, 9)
		hits := whole[2:6]
		Play(1600, 2, hits)
		if !slices.Equal(whole, rowOf(n, 9)) || !slices.Equal(hits, rowOf(n>>2, 4)) {
			t.Fatalf("%v: another list of hits", whole)
		}
	}
}

// P10.4, W2: nothing is kept of what was handed in, even if it changes then, nor of what was asked in between.
func TestNotKept(t *testing.T) {
	hits := rounds(10, 3, 4, 5, 1)
	c, q := Play(1600, 10, hits)
	wantC, wantQ := plainPlay(1600, 10, hits)
	for i := range hits {
		hits[i] = !hits[i]
		asPlain(t, 160, 3, hits)
	}
	if c != wantC || q != wantQ {
		t.Errorf("%+v, %+v: changed behind the call", c, q)
	}
	for range 3 {
		played(t, 1600, 10, rounds(10, 3, 4, 5, 1), wantC, wantQ)
		turned(t, climbOf(1, 1, 0, 5), 160, climbOf(0, 0, 32768, 10), 5)
		asPlain(t, 1600, 10, hits)
	}
}

// windows are those behind each round of a play, and behind none.
func windows(capacity, period int, hits []bool) []int {
	var all []int
	for n := 0; n <= len(hits); n += period {
		_, q := Play(capacity, period, hits[:n])
		all = append(all, q.Window)
	}
	return all
}

// P10.6: as long as rates get better, by a jump or by less, it goes on the same way; where they get worse, it turns.
func TestTheSameWay(t *testing.T) {
	for _, c := range []struct {
		what string
		hits []int
		want []int
	}{
		{"better by jumps", []int{10, 20, 30, 40, 50, 60}, []int{160, 1160, 2160, 3160, 4160, 5160, 6160}},
		{"better by less", []int{50, 51, 52, 53, 54}, []int{160, 1160, 2160, 3140, 4100, 5040}},
		{"the same", []int{50, 50, 50, 50}, []int{160, 1160, 2160, 3140, 4100}},
		{"better, then worse by a jump", []int{10, 20, 30, 20}, []int{160, 1160, 2160, 3160, 2160}},
		{"better, then worse by less", []int{50, 51, 52, 51}, []int{160, 1160, 2160, 3140, 2180}},
		{"worse, then better that way", []int{90, 91, 92, 80, 90, 99}, []int{160, 1160, 2160, 3140, 2180, 1180, 180}},
		{"worse by less, then better that way", []int{90, 91, 90, 91, 92, 93}, []int{160, 1160, 2160, 1180, 220, 1, 1}},
		{"worse and worse", []int{50, 40, 30, 20, 10}, []int{160, 1160, 160, 1160, 160, 1160}},
		{"worse and worse by less", []int{50, 49, 48, 47}, []int{160, 1160, 160, 1140, 180}},
	} {
		if got := windows(16000, 100, rounds(100, c.hits...)); !slices.Equal(got, c.want) {
			t.Errorf("%s: windows of %v, want %v", c.what, got, c.want)
		}
	}
}

// P10.6: of every climb: better or the same, the same way as its step; worse, the other way; and the next step goes as this one went, or not at all.
func TestTheSameWayOfAll(t *testing.T) {
	eachClimb(func(c api.Climb) {
		step, far, next := plainClamped(c).Step, 0, api.Climb{}
		next, far = Turn(c, 1600)
		if better := plainRate(c) >= plainClamped(c).Last; better != (far == step) && step != 0 {
			t.Errorf("Turn(%+v, 1600): %d, the other way", c, far)
		}
		if far > 0 && next.Step < 0 || far < 0 && next.Step > 0 {
			t.Errorf("Turn(%+v, 1600): how far: %d, and a step of %d", c, far, next.Step)
		}
	})
}
