package weigh

import (
	"errors"
	"fmt"
	"math/big"
	"slices"
	"testing"

	"pantry/api"
	"pantry/testkeys"
)

// Of what the chapter names: the most that a node weighs, and that a cache holds.
const (
	heaviest = 1 << 31
	most     = 1<<62 - 1
)

// numbers are those at, beside and beyond all ends of weights and capacities.
func numbers() []int {
	return []int{
		api.MinInt, api.MinInt + 1, -most, -heaviest, -2, -1, 0, 1, 2, 5, 6, 100,
		heaviest - 1, heaviest, heaviest + 1, 1 << 32, 1<<32 + 1, 1 << 40,
		most - heaviest, most - 1, most, most + 1, most + 2, api.MaxInt - 1, api.MaxInt,
	}
}

func keys() []int {
	all := []int{0, 1, 7, -1, -7, api.MinInt, api.MaxInt}
	for i := range 20 {
		all = append(all, testkeys.At(i))
	}
	return all
}

// plain is what the chapter says of a weight and a capacity, in its own words.
func plain(weight, capacity int) api.Errno {
	if weight < 0 {
		return api.ErrArg
	}
	if !(capacity >= 0 && capacity <= most) {
		return api.ErrArg
	}
	if weight > capacity {
		return api.ErrTooHeavy
	}
	if weight > heaviest {
		return api.ErrTooHeavy
	}
	return api.OK
}

// is tells that e is just Wrap of that Errno, key and number: a Fault, with none around it; nil of OK.
func is(t *testing.T, what string, e error, want api.Errno, key, much int) {
	t.Helper()
	if want == api.OK {
		if e != nil {
			t.Errorf("%s tells %v, want nil", what, e)
		}
		return
	}
	f, ok := e.(*api.Fault)
	if !ok || f == nil {
		t.Errorf("%s tells %v, want a Fault of %v", what, e, want)
		return
	}
	if *f != (api.Fault{Err: want, Key: key, Much: much}) {
		t.Errorf("%s tells %+v, want %v, %d, %d", what, *f, want, key, much)
	}
}

// alike tells whether both are nil, or Faults of the same.
func alike(a, b error) bool {
	if a == nil || b == nil {
		return a == nil && b == nil
	}
	f, g := a.(*api.Fault), b.(*api.Fault)
	return *f == *g
}

// The chapter's example.
func TestExample(t *testing.T) {
	key, much, ok := Reason(Admit(7, 9, 5))
	if key != 7 || much != 9 || !ok {
		t.Errorf("Reason(Admit(7, 9, 5)) = %d, %d, %v, want 7, 9, true", key, much, ok)
	}
}

// P8.1: weights of both ends, beside 0, the capacity and MaxWeight.
func TestAdmitWeights(t *testing.T) {
	for _, c := range []struct {
		weight, capacity int
		want             api.Errno
	}{
		{api.MinInt, 5, api.ErrArg}, {-heaviest, 5, api.ErrArg}, {-1, 5, api.ErrArg},
		{0, 5, api.OK}, {1, 5, api.OK}, {4, 5, api.OK}, {5, 5, api.OK},
		{6, 5, api.ErrTooHeavy}, {7, 5, api.ErrTooHeavy}, {heaviest, 5, api.ErrTooHeavy}, {heaviest + 1, 5, api.ErrTooHeavy},
		{most, 5, api.ErrTooHeavy}, {most + 1, 5, api.ErrTooHeavy}, {api.MaxInt, 5, api.ErrTooHeavy},

		{-1, most, api.ErrArg}, {0, most, api.OK}, {1, most, api.OK}, {heaviest - 1, most, api.OK}, {heaviest, most, api.OK},
		{heaviest + 1, most, api.ErrTooHeavy}, {1 << 32, most, api.ErrTooHeavy}, {1<<32 + 1, most, api.ErrTooHeavy},
		{most - 1, most, api.ErrTooHeavy}, {most, most, api.ErrTooHeavy}, {most + 1, most, api.ErrTooHeavy}, {api.MaxInt, most, api.ErrTooHeavy},

		{heaviest - 1, heaviest - 1, api.OK}, {heaviest, heaviest - 1, api.ErrTooHeavy},
		{heaviest, heaviest, api.OK}, {heaviest + 1, heaviest, api.ErrTooHeavy},
		{heaviest, heaviest + 1, api.OK}, {heaviest + 1, heaviest + 1, api.ErrTooHeavy},
	} {
		is(t, fmt.Sprintf("Admit(7, %d, %d)", c.weight, c.capacity), Admit(7, c.weight, c.capacity), c.want, 7, c.weight)
	}
}

// P8.1: capacities of both ends, beside 0, MaxWeight and MaxCapacity.
func TestAdmitCapacities(t *testing.T) {
	for _, c := range []struct {
		capacity int
		of0, of1 api.Errno
	}{
		{api.MinInt, api.ErrArg, api.ErrArg}, {-most, api.ErrArg, api.ErrArg}, {-1, api.ErrArg, api.ErrArg},
		{0, api.OK, api.ErrTooHeavy}, {1, api.OK, api.OK},
		{heaviest - 1, api.OK, api.OK}, {heaviest, api.OK, api.OK}, {heaviest + 1, api.OK, api.OK}, {1 << 32, api.OK, api.OK},
		{most - 1, api.OK, api.OK}, {most, api.OK, api.OK},
		{most + 1, api.ErrArg, api.ErrArg}, {most + 2, api.ErrArg, api.ErrArg}, {api.MaxInt - 1, api.ErrArg, api.ErrArg}, {api.MaxInt, api.ErrArg, api.ErrArg},
	} {
		is(t, fmt.Sprintf("Admit(-7, 0, %d)", c.capacity), Admit(-7, 0, c.capacity), c.of0, -7, 0)
		is(t, fmt.Sprintf("Admit(-7, 1, %d)", c.capacity), Admit(-7, 1, c.capacity), c.of1, -7, 1)
	}
}

// P8.1, W4: of what is too heavy, for a capacity that may not be, and of a weight below 0, above a capacity below that, ErrArg is told.
func TestAdmitArgAheadOfTooHeavy(t *testing.T) {
	for _, c := range []struct{ weight, capacity int }{
		{1, -1}, {5, -1}, {heaviest + 1, -1}, {api.MaxInt, -1}, {1, api.MinInt}, {api.MaxInt, api.MinInt},
		{-1, -2}, {-1, api.MinInt}, {0, -1}, {0, api.MinInt},
		{heaviest + 1, most + 1}, {most + 2, most + 1}, {api.MaxInt, most + 1}, {heaviest + 1, api.MaxInt}, {api.MaxInt, api.MaxInt},
	} {
		is(t, fmt.Sprintf("Admit(3, %d, %d)", c.weight, c.capacity), Admit(3, c.weight, c.capacity), api.ErrArg, 3, c.weight)
	}
}

// P8.1: each weight with each capacity, of keys below 0 and at the ends too: Err, Key and Much, or nil.
func TestAdmitAll(t *testing.T) {
	for _, key := range keys() {
		for _, weight := range numbers() {
			for _, capacity := range numbers() {
				what := fmt.Sprintf("Admit(%d, %d, %d)", key, weight, capacity)
				is(t, what, Admit(key, weight, capacity), plain(weight, capacity), key, weight)
			}
		}
	}
	for weight := -3; weight < 20; weight++ {
		for capacity := -3; capacity < 20; capacity++ {
			what := fmt.Sprintf("Admit(1, %d, %d)", weight, capacity)
			is(t, what, Admit(1, weight, capacity), plain(weight, capacity), 1, weight)
		}
	}
}

// around is an error that wraps another one.
type around struct{ in error }

func (a around) Error() string { return "around" }
func (a around) Unwrap() error { return a.in }

// says is an error that says itself what it is: it wraps nothing.
type says struct {
	is    error
	fault *api.Fault
}

func (s says) Error() string        { return "says" }
func (s says) Is(target error) bool { return s.is != nil && target == s.is }
func (s says) As(target any) bool {
	f, ok := target.(**api.Fault)
	if !ok || s.fault == nil {
		return false
	}
	*f = s.fault
	return true
}

// several is an error that can't be compared, and wraps all that are in it.
type several []error

func (s several) Error() string   { return "several" }
func (s several) Unwrap() []error { return s }

// reason tells that Reason answers that.
func reason(t *testing.T, what string, e error, key, much int, ok bool) {
	t.Helper()
	if k, m, is := Reason(e); k != key || m != much || is != ok {
		t.Errorf("Reason of %s = %d, %d, %v, want %d, %d, %v", what, k, m, is, key, much, ok)
	}
}

// P8.2: of what Admit tells: nil, ErrArg, ErrTooHeavy, at all ends.
func TestReasonOfAdmit(t *testing.T) {
	reason(t, "nil", nil, 0, 0, false)
	for _, key := range keys() {
		for _, weight := range numbers() {
			for _, capacity := range numbers() {
				what := fmt.Sprintf("Admit(%d, %d, %d)", key, weight, capacity)
				if plain(weight, capacity) == api.ErrTooHeavy {
					reason(t, what, Admit(key, weight, capacity), key, weight, true)
				} else {
					reason(t, what, Admit(key, weight, capacity), 0, 0, false)
				}
			}
		}
	}
}

// P8.2: there must be a Fault, and ErrTooHeavy, one as much as the other.
func TestReasonOfOne(t *testing.T) {
	for n := api.Errno(-1); n < 20; n++ {
		reason(t, "a bare Errno", n, 0, 0, false)
		reason(t, "a bare Errno that is wrapped", around{n}, 0, 0, false)
		f := &api.Fault{Err: n, Key: -7, Much: 9}
		if n == api.ErrTooHeavy {
			reason(t, "a Fault of ErrTooHeavy", f, -7, 9, true)
			reason(t, "one that is wrapped", around{f}, -7, 9, true)
		} else {
			reason(t, "a Fault of another Errno", f, 0, 0, false)
			reason(t, "one that is wrapped", around{f}, 0, 0, false)
		}
	}
	reason(t, "a Fault of zeros", &api.Fault{Err: api.ErrTooHeavy}, 0, 0, true)
	reason(t, "an error that is neither", errors.New("error 4 of 7: 9"), 0, 0, false)
	reason(t, "one that wraps nothing", around{nil}, 0, 0, false)
}

// P8.2: a Fault that others wrap, in several ways and to some depth.
func TestReasonOfWrapped(t *testing.T) {
	heavy := Admit(-7, 9, 5)
	reason(t, "one around it", around{heavy}, -7, 9, true)
	reason(t, "Errorf", fmt.Errorf("it is: %w", heavy), -7, 9, true)
	reason(t, "a text of it", fmt.Errorf("it is: %v", heavy), 0, 0, false)
	reason(t, "Join of it alone", errors.Join(heavy), -7, 9, true)
	reason(t, "one that can't be compared", several{heavy}, -7, 9, true)
	deep := heavy
	for range 1000 {
		deep = around{errors.Join(errors.New("another one"), deep)}
	}
	reason(t, "many around it", deep, -7, 9, true)
	reason(t, "an Admit of ErrArg, wrapped", around{Admit(7, -1, 5)}, 0, 0, false)
}

// P8.2: of several errors the first Fault tells its Key and Much, be it that of ErrTooHeavy or another one.
func TestReasonOfSeveral(t *testing.T) {
	heavy, arg, full, bare := Admit(7, 9, 5), Admit(-3, -4, 5), api.Wrap(api.ErrFull, 1, 2), api.ErrTooHeavy
	other := errors.New("another one")
	for _, c := range []struct {
		what      string
		e         error
		key, much int
		ok        bool
	}{
		{"heavy, arg", errors.Join(heavy, arg), 7, 9, true},
		{"arg, heavy", errors.Join(arg, heavy), -3, -4, true},
		{"full, arg, heavy", errors.Join(full, arg, heavy), 1, 2, true},
		{"two heavy ones", errors.Join(Admit(1, 6, 5), heavy), 1, 6, true},
		{"other, nil, heavy", errors.Join(other, nil, heavy), 7, 9, true},
		{"bare, arg", errors.Join(bare, arg), -3, -4, true},
		{"arg, bare", errors.Join(arg, bare), -3, -4, true},
		{"bare, other", errors.Join(bare, other), 0, 0, false},
		{"bare, bare", errors.Join(bare, bare), 0, 0, false},
		{"arg, full", errors.Join(arg, full), 0, 0, false},
		{"arg, other", errors.Join(arg, other), 0, 0, false},
		{"within the first one, ahead of the second", errors.Join(around{errors.Join(other, full)}, heavy), 1, 2, true},
		{"within the second one", errors.Join(errors.Join(other, other), around{errors.Join(heavy, arg)}), 7, 9, true},
		{"Errorf of two", fmt.Errorf("%w, %w", arg, heavy), -3, -4, true},
		{"several with a nil", several{nil, arg, nil, heavy}, -3, -4, true},
		{"several of none", several{}, 0, 0, false},
	} {
		reason(t, c.what, c.e, c.key, c.much, c.ok)
		reason(t, c.what+", wrapped", around{c.e}, c.key, c.much, c.ok)
	}
}

// P8.2: errors that say by methods of their own what they are, as package errors asks them.
func TestReasonOfMethods(t *testing.T) {
	fault := &api.Fault{Err: api.ErrArg, Key: 1, Much: 2}
	reason(t, "both", says{api.ErrTooHeavy, fault}, 1, 2, true)
	reason(t, "both, wrapped", around{says{api.ErrTooHeavy, fault}}, 1, 2, true)
	reason(t, "Is alone", says{api.ErrTooHeavy, nil}, 0, 0, false)
	reason(t, "As alone", says{nil, fault}, 0, 0, false)
	reason(t, "As alone, of a heavy one", says{nil, &api.Fault{Err: api.ErrTooHeavy, Key: 1, Much: 2}}, 0, 0, false)
	reason(t, "Is of another one", says{api.ErrArg, fault}, 0, 0, false)
	reason(t, "As ahead of a Fault", errors.Join(says{nil, fault}, Admit(7, 9, 5)), 1, 2, true)
}

// bad is an error whose methods panic.
type bad struct{}

func (bad) Error() string { panic("no text") }
func (bad) Unwrap() error { panic("nothing in it") }

// W1: an error that panics when it is asked makes no panic here, and tells no reason.
func TestReasonOfPanics(t *testing.T) {
	var none *api.Fault
	for what, e := range map[string]error{
		"a nil Fault":          none,
		"a nil Fault, wrapped": around{none},
		"a nil Fault ahead":    errors.Join(none, Admit(7, 9, 5)),
		"a nil Fault behind":   errors.Join(api.ErrTooHeavy, none),
		"bad":                  bad{},
		"bad, wrapped":         around{bad{}},
		"bad ahead":            several{bad{}, Admit(7, 9, 5)},
	} {
		reason(t, what, e, 0, 0, false)
	}
	reason(t, "a good one behind", Admit(7, 9, 5), 7, 9, true)
}

// P8.2: asking for the reason changes no error.
func TestReasonChangesNothing(t *testing.T) {
	f := &api.Fault{Err: api.ErrTooHeavy, Key: 7, Much: 9}
	all := several{f, api.ErrTooHeavy, nil}
	for range 3 {
		reason(t, "several", all, 7, 9, true)
	}
	if *f != (api.Fault{Err: api.ErrTooHeavy, Key: 7, Much: 9}) || all[0] != error(f) || all[1] != error(api.ErrTooHeavy) || all[2] != nil {
		t.Errorf("it is %v now", all)
	}
}

// total tells that Total answers that; of OK at and n are not asked.
func total(t *testing.T, l []int, sum int, want api.Errno, at, n int) {
	t.Helper()
	got, e := Total(l)
	if got != sum {
		t.Errorf("Total(%v) = %d, want %d", l, got, sum)
	}
	is(t, fmt.Sprintf("Total(%v)", l), e, want, at, n)
}

// P8.3: sums that may be, of nothing too, up to just MaxCapacity.
func TestTotal(t *testing.T) {
	total(t, nil, 0, api.OK, 0, 0)
	total(t, []int{}, 0, api.OK, 0, 0)
	total(t, []int{0}, 0, api.OK, 0, 0)
	total(t, []int{0, 0, 0}, 0, api.OK, 0, 0)
	total(t, []int{1}, 1, api.OK, 0, 0)
	total(t, []int{1, 2, 3}, 6, api.OK, 0, 0)
	total(t, []int{3, 2, 1, 0, 4}, 10, api.OK, 0, 0)
	total(t, []int{heaviest, heaviest + 1, 1 << 40}, 1<<40+1<<32+1, api.OK, 0, 0)
	total(t, []int{most}, most, api.OK, 0, 0)
	total(t, []int{most, 0}, most, api.OK, 0, 0)
	total(t, []int{0, most, 0, 0}, most, api.OK, 0, 0)
	total(t, []int{most - 1, 1}, most, api.OK, 0, 0)
	total(t, []int{1, most - 1}, most, api.OK, 0, 0)
	total(t, []int{1 << 61, 1<<61 - 1}, most, api.OK, 0, 0)
}

// P8.3: the first place at which the sum would be above MaxCapacity, and the number there; also where it would wrap round.
func TestTotalFull(t *testing.T) {
	for _, c := range []struct {
		l     []int
		at, n int
	}{
		{[]int{most + 1}, 0, most + 1},
		{[]int{most + 2, 1}, 0, most + 2},
		{[]int{api.MaxInt}, 0, api.MaxInt},
		{[]int{most, 1}, 1, 1},
		{[]int{1, most}, 1, most},
		{[]int{most, 0, 0, 1, 2}, 3, 1},
		{[]int{most - 1, 1, 1}, 2, 1},
		{[]int{most - 1, 2}, 1, 2},
		{[]int{1 << 61, 1 << 61}, 1, 1 << 61},
		{[]int{most, most}, 1, most},
		{[]int{most, api.MaxInt}, 1, api.MaxInt},
		{[]int{1, api.MaxInt}, 1, api.MaxInt},
		{[]int{2, api.MaxInt, api.MaxInt}, 1, api.MaxInt},
		{[]int{0, api.MaxInt}, 1, api.MaxInt},
		{[]int{most, 5, most, 7}, 1, 5},
	} {
		total(t, c.l, 0, api.ErrFull, c.at, c.n)
	}
}

// P8.3: the first place at which a number is below 0, and that number.
func TestTotalArg(t *testing.T) {
	for _, c := range []struct {
		l     []int
		at, n int
	}{
		{[]int{-1}, 0, -1},
		{[]int{api.MinInt}, 0, api.MinInt},
		{[]int{-1, -2}, 0, -1},
		{[]int{1, -1}, 1, -1},
		{[]int{1, 2, -5, 3, -6}, 2, -5},
		{[]int{9, 9, 9, api.MinInt}, 3, api.MinInt},
		{[]int{most, -1}, 1, -1},
		{[]int{most, api.MinInt}, 1, api.MinInt},
		{[]int{0, -most}, 1, -most},
	} {
		total(t, c.l, 0, api.ErrArg, c.at, c.n)
	}
}

// P8.3: where both are so, the first place of all tells which: a number below 0 ahead of the place at which the sum would be too great, and behind it.
func TestTotalBoth(t *testing.T) {
	total(t, []int{-1, most + 1}, 0, api.ErrArg, 0, -1)
	total(t, []int{-1, most, 1}, 0, api.ErrArg, 0, -1)
	total(t, []int{most, -1, 1}, 0, api.ErrArg, 1, -1)
	total(t, []int{most, -1, 2}, 0, api.ErrArg, 1, -1)
	total(t, []int{api.MinInt, api.MaxInt}, 0, api.ErrArg, 0, api.MinInt)
	total(t, []int{most, 1, -1}, 0, api.ErrFull, 1, 1)
	total(t, []int{most, 2, -2}, 0, api.ErrFull, 1, 2)
	total(t, []int{most + 1, -1}, 0, api.ErrFull, 0, most+1)
	total(t, []int{api.MaxInt, api.MinInt}, 0, api.ErrFull, 0, api.MaxInt)
	total(t, []int{most, 0, 7, 0, -1, 8}, 0, api.ErrFull, 2, 7)
}

// plainTotal is what the chapter says of a row, with sums that never wrap round.
func plainTotal(l []int) (int, api.Errno, int) {
	sum := new(big.Int)
	for at, n := range l {
		sum.Add(sum, big.NewInt(int64(n)))
		if n < 0 {
			return 0, api.ErrArg, at
		}
		if sum.Cmp(big.NewInt(most)) > 0 {
			return 0, api.ErrFull, at
		}
	}
	return int(sum.Int64()), api.OK, 0
}

func asPlainTotal(t *testing.T, l []int) {
	t.Helper()
	sum, want, at := plainTotal(l)
	n := 0
	if want != api.OK {
		n = l[at]
	}
	total(t, l, sum, want, at, n)
}

// P8.3: every row of up to three of the numbers, and long rows.
func TestTotalOfEveryRow(t *testing.T) {
	for _, a := range numbers() {
		asPlainTotal(t, []int{a})
		for _, b := range numbers() {
			asPlainTotal(t, []int{a, b})
			for _, c := range numbers() {
				asPlainTotal(t, []int{a, b, c})
			}
		}
	}
	long := make([]int, 1000)
	for i := range long {
		long[i] = (most - 999) / 1000
	}
	for _, last := range numbers() {
		asPlainTotal(t, append(slices.Clone(long), last, 3, -1))
	}
}

// P8.4: as many answers as keys, each that of Admit; the weight is 0 where there is none.
func TestAll(t *testing.T) {
	for _, c := range []struct{ keys, weights []int }{
		{nil, nil}, {nil, []int{}}, {[]int{}, nil}, {[]int{}, []int{}},
		{nil, []int{9}}, {[]int{}, []int{9, -1}},
		{[]int{1}, nil}, {[]int{1, 2, 3}, []int{}},
		{[]int{1, 2, 3}, []int{9}}, {[]int{1, 2, 3}, []int{1, 9}}, {[]int{1, 2, 3}, []int{-1, 5, 6}},
		{[]int{-1}, []int{9, 8, 7}}, {[]int{4, 4, -4}, []int{6, 5, api.MaxInt, -1, 9}},
		{keys(), numbers()}, {numbers(), keys()},
	} {
		for _, capacity := range numbers() {
			asAdmit(t, c.keys, c.weights, capacity)
		}
	}
}

func asAdmit(t *testing.T, keys, weights []int, capacity int) {
	t.Helper()
	told := All(keys, weights, capacity)
	if len(told) != len(keys) {
		t.Fatalf("All(%v, %v, %d) tells %d, want %d", keys, weights, capacity, len(told), len(keys))
	}
	for at, e := range told {
		weight := 0
		if at < len(weights) {
			weight = weights[at]
		}
		what := fmt.Sprintf("All(%v, %v, %d) at %d", keys, weights, capacity, at)
		is(t, what, e, plain(weight, capacity), keys[at], weight)
		if !alike(e, Admit(keys[at], weight, capacity)) {
			t.Errorf("%s is not what Admit tells", what)
		}
	}
}

// P8.4: where there is no weight, it is 0 that is told, also of a capacity that may not be; a weight beyond the keys, be it in the spare room or not, tells nothing.
func TestAllWithoutWeights(t *testing.T) {
	spare := []int{1, 9, 9}
	for at, e := range All([]int{1, 2, 3}, spare[:1], 5) {
		is(t, fmt.Sprintf("weights with spare room, at %d", at), e, api.OK, 0, 0)
	}
	for at, e := range All([]int{1, 2, 3}, nil, -1) {
		is(t, fmt.Sprintf("a capacity of -1, at %d", at), e, api.ErrArg, at+1, 0)
	}
	for at, e := range All([]int{1, 2}, []int{1, 2, 99, -1}, 5) {
		is(t, fmt.Sprintf("more weights, at %d", at), e, api.OK, 0, 0)
	}
}

// P8.4: First of nothing, of nil alone, of the first place, one in the middle and the last.
func TestFirst(t *testing.T) {
	a, b := Admit(1, 9, 5), Admit(1, 9, 5)
	text := errors.New("another one")
	for i, c := range []struct {
		l    []error
		want error
	}{
		{nil, nil}, {[]error{}, nil}, {[]error{nil}, nil}, {[]error{nil, nil, nil}, nil},
		{[]error{a}, a}, {[]error{a, nil, nil}, a}, {[]error{a, b}, a}, {[]error{b, a}, b},
		{[]error{nil, a, nil}, a}, {[]error{nil, b, a}, b}, {[]error{nil, nil, nil, a}, a},
		{[]error{nil, text, a}, text}, {[]error{nil, api.ErrArg, a}, api.ErrArg}, {[]error{nil, api.OK, a}, api.OK},
		{[]error{nil, nil, a}[:2], nil},
	} {
		if got := First(c.l); got != c.want {
			t.Errorf("%d: First(%v) = %v, want %v", i, c.l, got, c.want)
		}
	}
}

// P8.4: the first of what All tells is of the first key that may not come in.
func TestFirstOfAll(t *testing.T) {
	is(t, "the second", First(All([]int{1, 2, 3}, []int{1, 9, -1}, 5)), api.ErrTooHeavy, 2, 9)
	is(t, "the last", First(All([]int{1, 2, 3}, []int{1, 5, -1}, 5)), api.ErrArg, 3, -1)
	is(t, "the first", First(All([]int{1, 2, 3}, []int{1, 5, 6}, most+1)), api.ErrArg, 1, 1)
	is(t, "none", First(All([]int{1, 2, 3}, []int{1, 5}, 5)), api.OK, 0, 0)
}

// P8.5, W6: lists that are handed in, and their spare room, stay as they were, behind faults too.
func TestNothingChanged(t *testing.T) {
	wholeKeys, wholeWeights := []int{1, 2, 3, 4, 5, 6}, []int{1, 9, -1, 8, 7, -6}
	keys, weights := slices.Clone(wholeKeys), slices.Clone(wholeWeights)
	for n := range len(keys) + 1 {
		for m := range len(weights) + 1 {
			for _, capacity := range []int{-1, 0, 5, most, most + 1} {
				All(keys[:n], weights[:m], capacity)
				All(keys[n:], weights[m:], capacity)
			}
			Total(keys[:n])
			Total(weights[:m])
		}
	}
	if !slices.Equal(keys, wholeKeys) || !slices.Equal(weights, wholeWeights) {
		t.Errorf("they are %v, %v now, want %v, %v", keys, weights, wholeKeys, wholeWeights)
	}
	whole := []error{nil, Admit(1, 9, 5), nil, api.ErrArg, nil}
	l := slices.Clone(whole)
	for n := range len(l) + 1 {
		First(l[:n])
		First(l[n:])
	}
	if !slices.Equal(l, whole) || *l[1].(*api.Fault) != (api.Fault{Err: api.ErrTooHeavy, Key: 1, Much: 9}) {
		t.Errorf("it is %v now, want %v", l, whole)
	}
}

// P8.5, W6: nothing that is handed in is kept: when it changes, no answer does, and the next answer is of what it is then.
func TestNothingKept(t *testing.T) {
	keys, weights := []int{1, 2, 3}, []int{1, 9, -1}
	told := All(keys, weights, 5)
	sum, e := Total(weights)
	keys[1], weights[1], weights[2] = 20, 3, 6
	is(t, "All, at 0", told[0], api.OK, 0, 0)
	is(t, "All, at 1", told[1], api.ErrTooHeavy, 2, 9)
	is(t, "All, at 2", told[2], api.ErrArg, 3, -1)
	if sum != 0 {
		t.Errorf("the sum is %d, want 0", sum)
	}
	is(t, "Total", e, api.ErrArg, 2, -1)
	asAdmit(t, keys, weights, 5)
	total(t, weights, 10, api.OK, 0, 0)
}

// P8.5, W6: no two answers share memory, be it a list's, its spare room's or a Fault's.
func TestNewMemory(t *testing.T) {
	for _, n := range []int{1, 2, 3, 10, 100} {
		keys := make([]int, n)
		weights := slices.Repeat([]int{9}, n)
		a, b := All(keys, weights, 5), All(keys, weights, 5)
		faults := map[*api.Fault]int{}
		for at := range n {
			faults[a[at].(*api.Fault)]++
			faults[b[at].(*api.Fault)]++
		}
		if len(faults) != 2*n {
			t.Errorf("%d Faults of %d are apart", len(faults), 2*n)
		}
		clear(a[:cap(a)])
		for at := range n {
			is(t, "the other list", b[at], api.ErrTooHeavy, 0, 9)
		}
	}
	x, y := Admit(7, 9, 5).(*api.Fault), Admit(7, 9, 5).(*api.Fault)
	*x = api.Fault{}
	is(t, "Admit", y, api.ErrTooHeavy, 7, 9)
	_, c := Total([]int{1, -1})
	_, d := Total([]int{1, -1})
	*c.(*api.Fault) = api.Fault{}
	is(t, "Total", d, api.ErrArg, 1, -1)
}

// P8.6: what is admitted, is with more capacity, too, up to MaxCapacity, and with none beyond that.
func TestMoreCapacity(t *testing.T) {
	each(t, func(weight, capacity int) {
		for _, more := range numbers() {
			if more <= capacity {
				continue
			}
			e := Admit(3, weight, more)
			if more <= most && e != nil {
				t.Errorf("%d is admitted to %d, but to %d: %v", weight, capacity, more, e)
			}
			if more > most && e == nil {
				t.Errorf("%d is admitted to %d", weight, more)
			}
		}
	})
}

// P8.6: of what is admitted, what weighs less is too, from 0 on.
func TestLessWeight(t *testing.T) {
	each(t, func(weight, capacity int) {
		for _, less := range append(numbers(), weight-1, weight/2) {
			if less >= weight {
				continue
			}
			e := Admit(3, less, capacity)
			if less >= 0 && e != nil {
				t.Errorf("%d is admitted to %d, but %d: %v", weight, capacity, less, e)
			}
			if less < 0 && e == nil {
				t.Errorf("%d is admitted to %d", less, capacity)
			}
		}
	})
}

// each goes over weights and capacities that are admitted; they are so many that none of the ends is missing.
func each(t *testing.T, do func(weight, capacity int)) {
	t.Helper()
	n := 0
	for _, weight := range numbers() {
		for _, capacity := range numbers() {
			if Admit(3, weight, capacity) == nil {
				n++
				do(weight, capacity)
			}
		}
	}
	want := 0
	for _, weight := range numbers() {
		for _, capacity := range numbers() {
			if plain(weight, capacity) == api.OK {
				want++
			}
		}
	}
	if n != want || n == 0 {
		t.Errorf("%d are admitted, want %d", n, want)
	}
}

// W2: the same is answered again, whatever was asked in between.
func TestAgain(t *testing.T) {
	for range 3 {
		is(t, "Admit", Admit(7, 9, 5), api.ErrTooHeavy, 7, 9)
		reason(t, "nil", Admit(7, 5, 5), 0, 0, false)
		total(t, []int{most, 1}, 0, api.ErrFull, 1, 1)
		total(t, []int{1, 2}, 3, api.OK, 0, 0)
		asAdmit(t, []int{1, 2, 3}, []int{1, 9}, 5)
		reason(t, "Admit", Admit(7, 9, 5), 7, 9, true)
	}
}
