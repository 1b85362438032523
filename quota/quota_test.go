package quota

import (
	"math/big"
	"testing"

	"pantry/api"
)

// Of what the chapter names: the most that a cache holds, and the most that a window of it may weigh.
const (
	most       = 1<<62 - 1
	mostWindow = 3689348814741910323
)

func quota(capacity, window, protected int) api.Quota {
	return api.Quota{Capacity: capacity, Window: window, Protected: protected}
}

// capacities are those that the chapter names, and those at, beside and beyond the ends of small parts and of all numbers.
func capacities() []int {
	return []int{
		api.MinInt, api.MinInt + 1, -most, -100, -2, -1, 0, 1, 2, 3, 4, 5, 6, 7, 9, 10, 11,
		99, 100, 101, 124, 125, 126, 199, 200, 201, 999, 1000, 1001, 1 << 31, 1<<32 + 1,
		most/2 - 1, most / 2, most - 100, most - 5, most - 1, most, most + 1, most + 2, api.MaxInt - 1, api.MaxInt,
	}
}

// ways are how far windows are shifted: those beside 0, beside parts of a capacity, and at both ends.
func ways() []int {
	return []int{
		api.MinInt, api.MinInt + 1, -most - 2, -most - 1, -most, -mostWindow, -1 << 32, -1000, -800, -790, -100, -10, -9, -2, -1,
		0, 1, 2, 9, 10, 80, 90, 790, 791, 800, 1000, 1 << 32, mostWindow - 1, mostWindow, mostWindow + 1,
		most - 1, most, most + 1, 1<<63 - mostWindow, 1<<63 - mostWindow - 1, api.MaxInt - 1, api.MaxInt,
	}
}

func bigOf(n int) *big.Int { return big.NewInt(int64(n)) }

// within is the number, or the end that it is beyond.
func within(n, low, high *big.Int) *big.Int {
	if n.Cmp(low) < 0 {
		return low
	}
	if n.Cmp(high) > 0 {
		return high
	}
	return n
}

// plainEnds is what the chapter says of the window's ends, in its own words.
func plainEnds(capacity int) (int, int) {
	if capacity == 0 {
		return 0, 0
	}
	high := capacity - capacity/5
	if high > capacity {
		high = capacity
	}
	return 1, high
}

func plainCapacity(capacity int) int {
	if capacity < 0 {
		return 0
	}
	if capacity > most {
		return most
	}
	return capacity
}

// plain is what the chapter says of a capacity, a window and a shift of it, with sums that never wrap round.
func plain(capacity, window, by int) api.Quota {
	c := plainCapacity(capacity)
	low, high := plainEnds(c)
	own := within(bigOf(window), bigOf(low), bigOf(high))
	sum := new(big.Int).Add(own, bigOf(by))
	w := int(within(sum, bigOf(low), bigOf(high)).Int64())
	left := c - w
	return quota(c, w, left-left/5)
}

// is tells that a call answered that.
func is(t *testing.T, what string, got, want api.Quota) {
	t.Helper()
	if got != want {
		t.Errorf("%s = %+v, want %+v", what, got, want)
	}
}

// sound tells of what Of and Shift tell what P9.3 says of it.
func sound(t *testing.T, q api.Quota) {
	t.Helper()
	if !Right(q) {
		t.Errorf("%+v is not right", q)
	}
	left := Main(q) - q.Protected
	if q.Capacity < 0 || q.Capacity > most || q.Window < 0 || q.Protected < 0 || left < 0 || q.Window+q.Protected+left != q.Capacity {
		t.Errorf("%+v and %d are not together the capacity, or below 0", q, left)
	}
}

// The chapter's examples.
func TestExamples(t *testing.T) {
	is(t, "Of(1000)", Of(1000), quota(1000, 10, 792))
	is(t, "Shift of it by 90", Shift(Of(1000), 90), quota(1000, 100, 720))
}

// P9.1: the capacities that the chapter names.
func TestOf(t *testing.T) {
	for _, c := range []struct {
		capacity int
		want     api.Quota
	}{
		{api.MinInt, quota(0, 0, 0)}, {-1, quota(0, 0, 0)}, {0, quota(0, 0, 0)},
		{1, quota(1, 1, 0)}, {2, quota(2, 1, 1)}, {3, quota(3, 1, 2)}, {4, quota(4, 1, 3)}, {5, quota(5, 1, 4)}, {6, quota(6, 1, 4)}, {7, quota(7, 1, 5)},
		{99, quota(99, 1, 79)}, {100, quota(100, 1, 80)}, {101, quota(101, 1, 80)},
		{199, quota(199, 1, 159)}, {200, quota(200, 2, 159)}, {299, quota(299, 2, 238)}, {300, quota(300, 3, 238)}, {1000, quota(1000, 10, 792)},
		{most, quota(most, 46116860184273879, 3652455326594491220)},
		{most + 1, quota(most, 46116860184273879, 3652455326594491220)},
		{api.MaxInt, quota(most, 46116860184273879, 3652455326594491220)},
	} {
		if got := Of(c.capacity); got != c.want {
			t.Errorf("Of(%d) = %+v, want %+v", c.capacity, got, c.want)
		}
	}
}

// P9.1, P9.3: many capacities, one behind the other, and at all ends.
func TestOfAll(t *testing.T) {
	l := capacities()
	for c := range 3000 {
		l = append(l, c, most-c)
	}
	for _, c := range l {
		got, want := Of(c), plain(c, plainCapacity(c)/100, 0)
		if got != want {
			t.Errorf("Of(%d) = %+v, want %+v", c, got, want)
		}
		sound(t, got)
	}
}

// P9.2: a window is shifted to just the window's ends, and between them by just as much.
func TestShiftOfOne(t *testing.T) {
	q := Of(1000)
	for _, c := range []struct{ by, window, protected int }{
		{api.MinInt, 1, 800}, {api.MinInt + 1, 1, 800}, {-most, 1, 800}, {-1000, 1, 800}, {-11, 1, 800}, {-10, 1, 800}, {-9, 1, 800},
		{-8, 2, 799}, {-1, 9, 793}, {0, 10, 792}, {1, 11, 792}, {2, 12, 791}, {90, 100, 720}, {490, 500, 400},
		{788, 798, 162}, {789, 799, 161}, {790, 800, 160}, {791, 800, 160}, {990, 800, 160}, {1000, 800, 160},
		{most, 800, 160}, {most + 1, 800, 160}, {api.MaxInt - 10, 800, 160}, {api.MaxInt - 9, 800, 160}, {api.MaxInt, 800, 160},
	} {
		if got, want := Shift(q, c.by), quota(1000, c.window, c.protected); got != want {
			t.Errorf("by %d: %+v, want %+v", c.by, got, want)
		}
	}
}

// P9.2: the window's ends of the capacities that the chapter names, by shifts as far as there are.
func TestShiftToTheEnds(t *testing.T) {
	for _, c := range []struct{ capacity, low, high int }{
		{api.MinInt, 0, 0}, {-1, 0, 0}, {0, 0, 0}, {1, 1, 1}, {2, 1, 2}, {4, 1, 4}, {5, 1, 4}, {6, 1, 5}, {9, 1, 8}, {10, 1, 8}, {11, 1, 9},
		{99, 1, 80}, {100, 1, 80}, {199, 1, 160}, {200, 1, 160}, {1000, 1, 800},
		{most, 1, mostWindow}, {most + 1, 1, mostWindow}, {api.MaxInt, 1, mostWindow},
	} {
		for _, window := range []int{api.MinInt, -1, 0, 1, 2, c.low, c.high, c.high + 1, most, api.MaxInt} {
			q := quota(c.capacity, window, 7)
			low, high := Shift(q, api.MinInt), Shift(q, api.MaxInt)
			if low.Window != c.low || high.Window != c.high {
				t.Errorf("%+v ends at %d and %d, want %d and %d", q, low.Window, high.Window, c.low, c.high)
			}
			is(t, "once more down", Shift(low, -1), low)
			is(t, "once more up", Shift(high, 1), high)
			is(t, "down from the lower end", Shift(low, api.MinInt), low)
			is(t, "up from the upper end", Shift(high, api.MaxInt), high)
			is(t, "all the way up", Shift(low, api.MaxInt), high)
			is(t, "all the way down", Shift(high, api.MinInt), low)
		}
	}
}

// P9.2: each field of the quota at hand is clamped ahead of the shift, or told anew: a window beyond an end is shifted from that end on.
func TestShiftOfWrongOnes(t *testing.T) {
	for _, c := range []struct {
		q    api.Quota
		by   int
		want api.Quota
	}{
		{quota(1000, api.MinInt, 0), 0, quota(1000, 1, 800)},
		{quota(1000, api.MinInt, 0), 5, quota(1000, 6, 796)},
		{quota(1000, api.MinInt, 0), -5, quota(1000, 1, 800)},
		{quota(1000, -5, 0), 5, quota(1000, 6, 796)},
		{quota(1000, 0, 0), 0, quota(1000, 1, 800)},
		{quota(1000, 0, 0), 1, quota(1000, 2, 799)},
		{quota(1000, 801, 0), 0, quota(1000, 800, 160)},
		{quota(1000, 801, 0), -1, quota(1000, 799, 161)},
		{quota(1000, api.MaxInt, 0), -5, quota(1000, 795, 164)},
		{quota(1000, api.MaxInt, 0), api.MaxInt, quota(1000, 800, 160)},
		{quota(1000, api.MaxInt, 0), api.MinInt, quota(1000, 1, 800)},
		{quota(1000, 10, api.MinInt), 0, quota(1000, 10, 792)},
		{quota(1000, 10, api.MaxInt), 90, quota(1000, 100, 720)},
		{quota(-1, 10, 5), 3, quota(0, 0, 0)},
		{quota(api.MinInt, api.MinInt, api.MinInt), api.MinInt, quota(0, 0, 0)},
		{quota(api.MinInt, api.MaxInt, -1), api.MaxInt, quota(0, 0, 0)},
		{quota(most+1, 5, 0), 0, quota(most, 5, 3689348814741910319)},
		{quota(api.MaxInt, api.MaxInt, api.MaxInt), 0, quota(most, mostWindow, 737869762948382064)},
		{quota(api.MaxInt, api.MaxInt, api.MaxInt), api.MaxInt, quota(most, mostWindow, 737869762948382064)},
		{quota(api.MaxInt, api.MaxInt, api.MaxInt), -mostWindow + 2, quota(most, 2, 3689348814741910321)},
	} {
		if got := Shift(c.q, c.by); got != c.want {
			t.Errorf("Shift(%+v, %d) = %+v, want %+v", c.q, c.by, got, c.want)
		}
	}
}

// asPlain tells of one shift what the chapter says of it, and of its answer what P9.3 says.
func asPlain(t *testing.T, q api.Quota, by int) {
	t.Helper()
	got := Shift(q, by)
	if want := plain(q.Capacity, q.Window, by); got != want {
		t.Errorf("Shift(%+v, %d) = %+v, want %+v", q, by, got, want)
	}
	sound(t, got)
}

// P9.2, P9.3: every small quota, by each small shift.
func TestShiftOfSmallOnes(t *testing.T) {
	for c := -2; c <= 16; c++ {
		for w := -2; w <= 18; w++ {
			for by := -20; by <= 20; by++ {
				asPlain(t, quota(c, w, by), by)
			}
		}
	}
}

// P9.2, P9.3: every capacity with every window, at all ends, by every shift, whatever Protected is.
func TestShiftOfAll(t *testing.T) {
	protected := capacities()
	n := 0
	for _, c := range capacities() {
		for _, w := range append(ways(), capacities()...) {
			for _, by := range append(ways(), -w, c-w) {
				asPlain(t, quota(c, w, protected[n%len(protected)]), by)
				n++
			}
		}
	}
}

// P9.2: Protected is told anew, whatever it was.
func TestShiftProtected(t *testing.T) {
	for _, p := range append(ways(), capacities()...) {
		for _, by := range []int{-20, -1, 0, 1, 90, 2000} {
			is(t, "another Protected", Shift(quota(1000, 10, p), by), Shift(Of(1000), by))
		}
	}
}

// P9.2: what Of and Shift tell is right; what is off by one in a field is not.
func TestRightOffByOne(t *testing.T) {
	for _, c := range capacities() {
		for _, by := range ways() {
			q := Shift(Of(c), by)
			if !Right(q) {
				t.Errorf("%+v is not right", q)
			}
			for _, off := range []int{-1, 1} {
				asRight(t, quota(q.Capacity+off, q.Window, q.Protected))
				asRight(t, quota(q.Capacity, q.Window+off, q.Protected))
				if x := quota(q.Capacity, q.Window, q.Protected+off); Right(x) {
					t.Errorf("%+v is right", x)
				}
			}
		}
	}
}

// plainRight is what the chapter says of a quota, in its own words: another Window may still be right, where a fifth is rounded.
func plainRight(q api.Quota) bool {
	if q.Capacity < 0 || q.Capacity > most {
		return false
	}
	low, high := plainEnds(q.Capacity)
	left := q.Capacity - q.Window
	return q.Window >= low && q.Window <= high && q.Protected == left-left/5
}

// asRight tells of Right and of Main what the chapter says of them.
func asRight(t *testing.T, q api.Quota) {
	t.Helper()
	want := plainRight(q)
	if Right(q) != want {
		t.Errorf("Right(%+v) = %v", q, !want)
	}
	left := 0
	if want {
		left = q.Capacity - q.Window
	}
	if got := Main(q); got != left {
		t.Errorf("Main(%+v) = %d, want %d", q, got, left)
	}
}

// P9.2: quotas that are right, and those beside them.
func TestRight(t *testing.T) {
	for _, c := range []struct {
		q    api.Quota
		want bool
	}{
		{quota(0, 0, 0), true}, {quota(1, 1, 0), true}, {quota(2, 1, 1), true}, {quota(2, 2, 0), true}, {quota(5, 4, 1), true},
		{quota(1000, 10, 792), true}, {quota(1000, 1, 800), true}, {quota(1000, 800, 160), true}, {quota(1000, 100, 720), true},
		{quota(1000, 11, 792), true}, {quota(1001, 11, 792), true}, {quota(999, 10, 792), true},
		{quota(most, 1, 3689348814741910322), true}, {quota(most, mostWindow, 737869762948382064), true},

		{quota(1, 0, 0), false}, {quota(1, 0, 1), false}, {quota(2, 0, 2), false}, {quota(5, 5, 0), false}, {quota(0, 1, 0), false}, {quota(0, 0, 1), false}, {quota(0, -1, 1), false},
		{quota(10, 9, 0), false}, {quota(10, 9, 1), false}, {quota(1000, 9, 792), false}, {quota(1000, 12, 792), false}, {quota(998, 10, 792), false}, {quota(999, 10, 793), false},
		{quota(1000, 10, 791), false}, {quota(1000, 10, 793), false}, {quota(1000, 801, 160), false}, {quota(1000, 0, 800), false}, {quota(1000, -1, 801), false},
		{quota(-1, 0, 0), false}, {quota(-1, -1, 0), false}, {quota(api.MinInt, 0, 0), false}, {quota(api.MinInt, api.MinInt, 0), false},
		{quota(most+1, 1, 3689348814741910322), false}, {quota(most+1, 1, 3689348814741910323), false},
		{quota(api.MaxInt, mostWindow, 737869762948382064), false}, {quota(api.MaxInt, api.MaxInt, 0), false},
		{quota(most, mostWindow+1, 737869762948382064), false}, {quota(most, api.MinInt, api.MaxInt), false},
	} {
		if got := Right(c.q); got != c.want {
			t.Errorf("Right(%+v) = %v, want %v", c.q, got, c.want)
		}
		asRight(t, c.q)
	}
}

// P9.2: of all small quotas just those are right that the chapter tells, and Main is 0 of the others.
func TestRightOfAll(t *testing.T) {
	for c := -2; c <= 30; c++ {
		for w := -2; w <= 32; w++ {
			for p := -2; p <= 32; p++ {
				asRight(t, quota(c, w, p))
			}
		}
	}
	for _, c := range capacities() {
		for _, w := range capacities() {
			for _, p := range append(ways(), plain(c, w, 0).Protected) {
				asRight(t, quota(c, w, p))
			}
		}
	}
}

// P9.2: Main of right quotas, and of those that are not.
func TestMainOf(t *testing.T) {
	for _, c := range []struct {
		q    api.Quota
		want int
	}{
		{Of(1000), 990}, {Shift(Of(1000), 90), 900}, {Shift(Of(1000), api.MinInt), 999}, {Shift(Of(1000), api.MaxInt), 200},
		{Of(0), 0}, {Of(1), 0}, {Of(2), 1}, {Of(-4), 0}, {Of(6), 5}, {Shift(Of(most), api.MinInt), most - 1},
		{quota(1, 0, 0), 0}, {quota(1000, 10, 791), 0}, {quota(1000, 10, 0), 0}, {quota(1000, 0, 800), 0}, {quota(1000, 801, 160), 0},
		{quota(1001, 10, 792), 0}, {quota(998, 10, 792), 0}, {quota(999, 10, 792), 989}, {quota(-1, -2, 1), 0}, {quota(api.MaxInt, 1, 0), 0}, {quota(0, api.MinInt, 0), 0},
	} {
		if got := Main(c.q); got != c.want {
			t.Errorf("Main(%+v) = %d, want %d", c.q, got, c.want)
		}
	}
}

// P9.4: there and back, from every window of small capacities, as far as no end is met; where one is cut, it comes back by just what was cut.
func TestThereAndBack(t *testing.T) {
	for c := range 60 {
		low, high := plainEnds(c)
		for w := low; w <= high; w++ {
			q := Shift(quota(c, w, 0), 0)
			for by := -70; by <= 70; by++ {
				thereAndBack(t, q, by)
			}
		}
	}
}

// P9.4: of great capacities, and by shifts as far as there are.
func TestThereAndBackOfAll(t *testing.T) {
	for _, c := range capacities() {
		for _, w := range capacities() {
			q := Shift(quota(c, w, 0), 0)
			low, high := plainEnds(q.Capacity)
			for _, by := range append(ways(), low-q.Window, high-q.Window, low-q.Window-1, high-q.Window+1) {
				thereAndBack(t, q, by)
			}
		}
	}
}

func thereAndBack(t *testing.T, q api.Quota, by int) {
	t.Helper()
	low, high := plainEnds(q.Capacity)
	cut := by < low-q.Window || by > high-q.Window
	back := Shift(Shift(q, by), -by)
	if !cut && back != q {
		t.Errorf("%+v by %d and back is %+v", q, by, back)
	}
	there := plain(q.Capacity, q.Window, by)
	if want := plain(there.Capacity, there.Window, -by); back != want {
		t.Errorf("%+v by %d and back is %+v, want %+v", q, by, back, want)
	}
}

// P9.4: where an end was met and the shift cut there, the way back ends elsewhere.
func TestThereAndBackOverAnEnd(t *testing.T) {
	q := Of(1000)
	for _, c := range []struct{ by, window int }{
		{-9, 10}, {-10, 11}, {-11, 12}, {-200, 201}, {-2000, 800}, {790, 10}, {791, 9}, {798, 2}, {799, 1}, {800, 1}, {2000, 1},
		{api.MaxInt, 1}, {api.MinInt + 1, 800}, {api.MinInt, 1}, // less MinInt is MinInt
	} {
		if back := Shift(Shift(q, c.by), -c.by); back.Window != c.window {
			t.Errorf("by %d and back: %+v, want a window of %d", c.by, back, c.window)
		}
	}
}

// W2: the same is answered again, whatever was asked in between.
func TestAgain(t *testing.T) {
	for range 3 {
		for _, c := range capacities() {
			q := Of(c)
			is(t, "Shift", Shift(q, 7), Shift(Of(c), 7))
			is(t, "Of", q, Of(c))
		}
		is(t, "Of(1000)", Of(1000), quota(1000, 10, 792))
	}
}
