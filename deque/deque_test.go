package deque

import (
	"iter"
	"slices"
	"testing"

	"pantry/api"
	"pantry/testkeys"
)

// plain is the chapter's lists in its own words: rows of numbers, and the weight of each number that is in one.
type plain struct {
	rows    [][]int
	weights map[int]int
}

func newPlain(lists int) *plain { return &plain{make([][]int, lists), map[int]int{}} }

func (p *plain) push(list, id, weight int) api.Errno {
	if list < 0 || list >= len(p.rows) || id < 1 || id > 1<<16 || weight < 0 || weight > 1<<31 {
		return api.ErrArg
	}
	if row, _ := p.of(id); row >= 0 {
		return api.ErrTwice
	}
	p.rows[list] = append(p.rows[list], id)
	p.weights[id] = weight
	return api.OK
}

func (p *plain) unlink(id int) api.Errno {
	row, _ := p.of(id)
	if row < 0 {
		return api.ErrNone
	}
	at := slices.Index(p.rows[row], id)
	p.rows[row] = slices.Delete(p.rows[row], at, at+1)
	delete(p.weights, id)
	return api.OK
}

func (p *plain) move(id, list int) api.Errno {
	row, weight := p.of(id)
	if row < 0 {
		return api.ErrNone
	}
	if list < 0 || list >= len(p.rows) {
		return api.ErrArg
	}
	p.unlink(id)
	return p.push(list, id, weight)
}

func (p *plain) reweigh(id, weight int) api.Errno {
	if row, _ := p.of(id); row < 0 {
		return api.ErrNone
	}
	if weight < 0 || weight > 1<<31 {
		return api.ErrArg
	}
	p.weights[id] = weight
	return api.OK
}

func (p *plain) of(id int) (int, int) {
	if _, ok := p.weights[id]; !ok {
		return -1, 0
	}
	for row := range p.rows {
		if slices.Contains(p.rows[row], id) {
			return row, p.weights[id]
		}
	}
	return -1, 0
}

// row is all of a row; none, if there is no such row.
func (p *plain) row(list int) []int {
	if list < 0 || list >= len(p.rows) {
		return nil
	}
	return p.rows[list]
}

func (p *plain) weight(list int) int {
	sum := 0
	for _, id := range p.row(list) {
		sum += p.weights[id]
	}
	return sum
}

// told is what going over all of it tells.
func told(seq iter.Seq[int]) []int {
	var all []int
	for id := range seq {
		all = append(all, id)
	}
	return all
}

// wrongRows are rows that no lists have.
func wrongRows(lists int) []int {
	return []int{-1, -2, -16, api.MinInt, api.MinInt + 1, lists, lists + 1, 16, 17, 1 << 16, 1 << 31, 1 << 32, 1<<32 + 1, api.MaxInt - 1, api.MaxInt}
}

// wrongIds are numbers that no node has.
func wrongIds() []int {
	return []int{0, -1, -2, -1 << 16, api.MinInt, api.MinInt + 1, 1<<16 + 1, 1<<16 + 2, 1 << 31, 1 << 32, 1<<32 + 1, api.MaxInt - 1, api.MaxInt}
}

// wrongWeights are weights that no node has.
func wrongWeights() []int {
	return []int{-1, -2, -1 << 31, api.MinInt, api.MinInt + 1, 1<<31 + 1, 1<<31 + 2, 1 << 32, 1<<32 + 1, api.MaxInt - 1, api.MaxInt}
}

// both are lists and plain ones that are handed the same calls; each call is held to what the plain ones answer.
type both struct {
	t *testing.T
	x *Lists
	p *plain
}

func newBoth(t *testing.T, lists int) both { return both{t, New(lists), newPlain(lists)} }

// rows are both, with those numbers pushed; each weighs ten times as much as it is.
func rows(t *testing.T, all ...[]int) both {
	t.Helper()
	b := newBoth(t, len(all))
	for list, ids := range all {
		for _, id := range ids {
			b.is(api.OK, b.push(list, id, 10*id))
		}
	}
	return b
}

// agree tells what a call answered, where the plain ones answered that too.
func (b both) agree(what string, got, plain api.Errno) api.Errno {
	b.t.Helper()
	if got != plain {
		b.t.Fatalf("%s = %v, want %v", what, got, plain)
	}
	return got
}

func (b both) push(list, id, weight int) api.Errno {
	b.t.Helper()
	return b.agree("Push", b.x.Push(list, id, weight), b.p.push(list, id, weight))
}

func (b both) unlink(id int) api.Errno {
	b.t.Helper()
	return b.agree("Unlink", b.x.Unlink(id), b.p.unlink(id))
}

func (b both) move(id, list int) api.Errno {
	b.t.Helper()
	return b.agree("Move", b.x.Move(id, list), b.p.move(id, list))
}

func (b both) reweigh(id, weight int) api.Errno {
	b.t.Helper()
	return b.agree("Reweigh", b.x.Reweigh(id, weight), b.p.reweigh(id, weight))
}

// is holds what a call answered to what the test itself asks for.
func (b both) is(want, got api.Errno) {
	b.t.Helper()
	if got != want {
		b.t.Fatalf("it answers %v, want %v", got, want)
	}
}

// holds tells that a row is those numbers, in that order.
func (b both) holds(list int, want ...int) {
	b.t.Helper()
	if got := told(b.x.All(list)); !slices.Equal(got, want) {
		b.t.Fatalf("the row %d is %v, want %v", list, got, want)
	}
	b.same("holds")
}

// same holds lists against the plain ones in all that they tell.
func (b both) same(what string) {
	b.t.Helper()
	for list := -2; list <= len(b.p.rows)+1; list++ {
		b.sameRow(what, list)
	}
	for id := range b.p.weights {
		b.sameOf(what, id)
	}
	for id := -1; id <= 12; id++ {
		b.sameOf(what, id)
	}
	for _, id := range wrongIds() {
		b.sameOf(what, id)
	}
}

func (b both) sameRow(what string, list int) {
	b.t.Helper()
	row := told(b.x.All(list))
	if want := b.p.row(list); !slices.Equal(row, want) {
		b.t.Fatalf("%s: the row %d is %v, want %v", what, list, first(row), first(want))
	}
	front, back, weight := 0, 0, 0
	for _, id := range row {
		_, w := b.x.Of(id)
		weight += w
		b.sameOf(what, id)
	}
	if len(row) > 0 {
		front, back = row[0], row[len(row)-1]
	}
	if f, l := b.x.Front(list), b.x.Back(list); f != front || l != back {
		b.t.Fatalf("%s: Front(%d) = %d, Back = %d, want %d, %d", what, list, f, l, front, back)
	}
	if n, w := b.x.Len(list), b.x.Weight(list); n != len(row) || w != weight || w != b.p.weight(list) {
		b.t.Fatalf("%s: Len(%d) = %d, Weight = %d, want %d, %d", what, list, n, w, len(row), weight)
	}
}

func (b both) sameOf(what string, id int) {
	b.t.Helper()
	list, w := b.x.Of(id)
	if wantList, wantW := b.p.of(id); list != wantList || w != wantW {
		b.t.Fatalf("%s: Of(%d) = %d, %d, want %d, %d", what, id, list, w, wantList, wantW)
	}
}

// first is a piece of a row that a message has room for.
func first(row []int) []int { return row[:min(len(row), 10)] }

// P7.1: lists at, beside and beyond both ends: there are so many rows, all empty, and no others.
func TestNew(t *testing.T) {
	for _, c := range []struct{ lists, want int }{
		{api.MinInt, 0}, {-1 << 16, 0}, {-2, 0}, {-1, 0}, {0, 0}, {1, 1}, {2, 2}, {3, 3}, {15, 15}, {16, 16},
		{17, 16}, {18, 16}, {32, 16}, {1 << 16, 16}, {1 << 32, 16}, {1<<32 + 1, 16}, {api.MaxInt - 1, 16}, {api.MaxInt, 16},
	} {
		b := both{t, New(c.lists), newPlain(c.want)}
		b.same("new")
		for list := -2; list < 20; list++ {
			want := api.OK
			if list < 0 || list >= c.want {
				want = api.ErrArg
			}
			b.is(want, b.push(list, 100+list, 1))
		}
		b.same("one in each")
	}
}

// The chapter's example.
func TestExample(t *testing.T) {
	x := New(1)
	if x.Push(0, 5, 1) != api.OK || x.Push(0, 6, 1) != api.OK || x.Move(5, 0) != api.OK {
		t.Error("a call is refused")
	}
	if row := told(x.All(0)); !slices.Equal(row, []int{6, 5}) {
		t.Errorf("row 0 is %v, want 6, 5", row)
	}
}

// P7.1: what is pushed is its row's last; no other row changes.
func TestPush(t *testing.T) {
	b := newBoth(t, 3)
	for i, c := range []struct{ list, id, weight int }{
		{1, 7, 3}, {1, 2, 0}, {0, 1, 1 << 31}, {1, 1 << 16, 1}, {2, 9, 1<<31 - 1}, {0, 1<<16 - 1, 0}, {1, 8, 5},
	} {
		b.is(api.OK, b.push(c.list, c.id, c.weight))
		if back := b.x.Back(c.list); back != c.id {
			t.Errorf("push %d: Back(%d) = %d, want %d", i, c.list, back, c.id)
		}
		if list, w := b.x.Of(c.id); list != c.list || w != c.weight {
			t.Errorf("push %d: Of(%d) = %d, %d", i, c.id, list, w)
		}
		b.same("pushed")
	}
	b.holds(0, 1, 1<<16-1)
	b.holds(1, 7, 2, 1<<16, 8)
	b.holds(2, 9)
}

// P7.1: Push refuses rows that there are not, and ids and weights that may not be, each alone; at the limits it takes them. What is refused changes nothing.
func TestPushArg(t *testing.T) {
	for _, lists := range []int{0, 1, 3, 16} {
		b := newBoth(t, lists)
		if lists > 0 {
			b.is(api.OK, b.push(0, 3, 30))
		}
		for _, list := range wrongRows(lists) {
			b.is(api.ErrArg, b.push(list, 5, 1))
		}
		for _, id := range wrongIds() {
			b.is(api.ErrArg, b.push(0, id, 1))
		}
		for _, weight := range wrongWeights() {
			b.is(api.ErrArg, b.push(0, 5, weight))
		}
		b.is(api.ErrArg, b.push(-1, 0, -1))
		b.same("refused")
	}
	b := newBoth(t, 16)
	b.is(api.OK, b.push(0, 1, 0))
	b.is(api.OK, b.push(15, api.MaxNodes, api.MaxWeight))
	b.same("at the limits")
}

// P7.1: Push refuses a number that is in a row, be it the same or another, with the same weight or another; it stays as it was.
func TestPushTwice(t *testing.T) {
	b := rows(t, []int{1, 2, 3}, []int{4}, nil)
	for id := 1; id <= 4; id++ {
		for list := range 3 {
			for _, weight := range []int{0, 10 * id, 1 << 31} {
				b.is(api.ErrTwice, b.push(list, id, weight))
			}
		}
	}
	b.holds(0, 1, 2, 3)
	b.holds(1, 4)
	b.holds(2)
}

// P7.1, W4: of a number that is in a row, and a row or weight that may not be, ErrArg is told.
func TestPushArgAheadOfTwice(t *testing.T) {
	b := rows(t, []int{1, 2}, []int{4})
	for _, id := range []int{1, 2, 4} {
		for _, list := range wrongRows(2) {
			b.is(api.ErrArg, b.push(list, id, 1))
		}
		for _, weight := range wrongWeights() {
			b.is(api.ErrArg, b.push(0, id, weight))
			b.is(api.ErrArg, b.push(1, id, weight))
		}
	}
	b.same("refused")
}

// P7.1: Unlink of the first, of one in the middle, of the last and of the only one; the others stay, in their order. Then it is in none, and may be pushed again.
func TestUnlink(t *testing.T) {
	for _, c := range []struct {
		id         int
		row, other []int
	}{
		{1, []int{2, 3, 4}, []int{5}},
		{2, []int{1, 3, 4}, []int{5}},
		{3, []int{1, 2, 4}, []int{5}},
		{4, []int{1, 2, 3}, []int{5}},
		{5, []int{1, 2, 3, 4}, nil},
	} {
		b := rows(t, []int{1, 2, 3, 4}, []int{5})
		b.is(api.OK, b.unlink(c.id))
		b.holds(0, c.row...)
		b.holds(1, c.other...)
		b.is(api.ErrNone, b.unlink(c.id))
		b.is(api.ErrNone, b.move(c.id, 0))
		b.is(api.ErrNone, b.reweigh(c.id, 1))
		b.same("unlinked")
		b.is(api.OK, b.push(1, c.id, 7))
		b.holds(1, append(slices.Clone(c.other), c.id)...)
	}
}

// P7.1, P7.2: of what is in no row all is refused: numbers that were never pushed, that are gone, and that no node has.
func TestNone(t *testing.T) {
	for _, b := range []both{newBoth(t, 0), newBoth(t, 1), newBoth(t, 16), rows(t, []int{1, 2, 3}, []int{4}, nil)} {
		gone := append(wrongIds(), 1<<16, 1<<16-1, 5, 6)
		for _, id := range []int{2, 4} {
			b.unlink(id)
			gone = append(gone, id)
		}
		for _, id := range gone {
			b.is(api.ErrNone, b.unlink(id))
			b.is(api.ErrNone, b.move(id, 0))
			b.is(api.ErrNone, b.reweigh(id, 1))
			if list, w := b.x.Of(id); list != -1 || w != 0 {
				t.Errorf("Of(%d) = %d, %d, want -1, 0", id, list, w)
			}
		}
		b.same("refused")
	}
}

// P7.2, W4: of a number that is in none, and a row or weight that may not be, ErrNone is told.
func TestNoneAheadOfArg(t *testing.T) {
	for _, b := range []both{newBoth(t, 0), newBoth(t, 2), rows(t, []int{1, 2}, []int{4})} {
		for _, id := range append(wrongIds(), 3, 1<<16) {
			for _, list := range wrongRows(len(b.p.rows)) {
				b.is(api.ErrNone, b.move(id, list))
			}
			for _, weight := range wrongWeights() {
				b.is(api.ErrNone, b.reweigh(id, weight))
			}
		}
		b.same("refused")
	}
}

// P7.2: Move of the first, of one in the middle, of the last and of the only one: into its own row, another and an empty one, the weight kept.
func TestMove(t *testing.T) {
	for _, c := range []struct {
		id, list int
		want     [3][]int
	}{
		{1, 0, [3][]int{{2, 3, 1}, {4}, nil}},
		{2, 0, [3][]int{{1, 3, 2}, {4}, nil}},
		{3, 0, [3][]int{{1, 2, 3}, {4}, nil}},
		{4, 0, [3][]int{{1, 2, 3, 4}, nil, nil}},
		{1, 1, [3][]int{{2, 3}, {4, 1}, nil}},
		{2, 1, [3][]int{{1, 3}, {4, 2}, nil}},
		{3, 1, [3][]int{{1, 2}, {4, 3}, nil}},
		{4, 1, [3][]int{{1, 2, 3}, {4}, nil}},
		{1, 2, [3][]int{{2, 3}, {4}, {1}}},
		{2, 2, [3][]int{{1, 3}, {4}, {2}}},
		{3, 2, [3][]int{{1, 2}, {4}, {3}}},
		{4, 2, [3][]int{{1, 2, 3}, nil, {4}}},
	} {
		b := rows(t, []int{1, 2, 3}, []int{4}, nil)
		for range 2 {
			b.is(api.OK, b.move(c.id, c.list))
			for list, want := range c.want {
				b.holds(list, want...)
			}
			if list, w := b.x.Of(c.id); list != c.list || w != 10*c.id {
				t.Errorf("Move(%d, %d): Of = %d, %d", c.id, c.list, list, w)
			}
		}
	}
}

// P7.2: Move refuses rows that there are not; the number stays where it is.
func TestMoveArg(t *testing.T) {
	for _, lists := range []int{1, 2, 16} {
		all := make([][]int, lists)
		all[lists-1] = []int{1, 2, 3}
		b := rows(t, all...)
		for _, list := range wrongRows(lists) {
			for id := 1; id <= 3; id++ {
				b.is(api.ErrArg, b.move(id, list))
			}
		}
		b.holds(lists-1, 1, 2, 3)
	}
}

// P7.2: Reweigh changes one weight, and that of its row; all stand where they stood.
func TestReweigh(t *testing.T) {
	b := rows(t, []int{1, 2, 3}, []int{4})
	for _, weight := range []int{0, 1, 1 << 31, 1<<31 - 1, 20, 20, 0, 0} {
		for id := 1; id <= 4; id++ {
			b.is(api.OK, b.reweigh(id, weight))
			if _, w := b.x.Of(id); w != weight {
				t.Errorf("Reweigh(%d, %d): Of tells %d", id, weight, w)
			}
			b.holds(0, 1, 2, 3)
			b.holds(1, 4)
		}
	}
	b.is(api.OK, b.reweigh(2, 5))
	b.is(api.OK, b.move(2, 1))
	if _, w := b.x.Of(2); w != 5 || b.x.Weight(0) != 0 || b.x.Weight(1) != 5 {
		t.Errorf("moved: it weighs %d, the rows %d, %d", w, b.x.Weight(0), b.x.Weight(1))
	}
}

// P7.2: Reweigh refuses weights that may not be; what was stays.
func TestReweighArg(t *testing.T) {
	b := rows(t, []int{1, 2, 3}, []int{4})
	for _, weight := range wrongWeights() {
		for id := 1; id <= 4; id++ {
			b.is(api.ErrArg, b.reweigh(id, weight))
		}
	}
	b.same("refused")
}

// P7.3: an empty row, a row that is empty again and one that there is not tell 0, and no number.
func TestEmptyRows(t *testing.T) {
	b := rows(t, []int{1, 2}, nil, []int{3})
	b.is(api.OK, b.unlink(3))
	for _, list := range append(wrongRows(3), 1, 2) {
		if f, l, w, n := b.x.Front(list), b.x.Back(list), b.x.Weight(list), b.x.Len(list); f != 0 || l != 0 || w != 0 || n != 0 {
			t.Errorf("row %d: Front %d, Back %d, Weight %d, Len %d", list, f, l, w, n)
		}
		if all := told(b.x.All(list)); len(all) != 0 {
			t.Errorf("row %d: All tells %v", list, all)
		}
	}
	b.same("asked")
}

// P7.3: who goes over All may stop at each place, at the first too, and begin again: the same iterator tells all from the first on.
func TestAllStops(t *testing.T) {
	want := []int{3, 9, 1, 7, 5}
	b := rows(t, []int{2}, want, []int{4})
	seq := b.x.All(1)
	for stop := range len(want) + 1 {
		var got []int
		for id := range seq {
			got = append(got, id)
			if len(got) >= stop {
				break
			}
		}
		if n := max(stop, 1); !slices.Equal(got, want[:n]) {
			t.Errorf("stopped at %d: %v, want %v", n, got, want[:n])
		}
		if again := told(seq); !slices.Equal(again, want) {
			t.Errorf("begun again: %v, want %v", again, want)
		}
	}
	asked := 0
	seq(func(int) bool { asked++; return false })
	if asked != 1 {
		t.Errorf("who stops at the first is told %d", asked)
	}
	b.same("gone over")
}

// P7.3: two go over All at once, one within the other, of one row and of two, and neither is in the other's way.
func TestAllWithinAll(t *testing.T) {
	want, other := []int{3, 9, 1}, []int{2, 4}
	b := rows(t, want, other)
	seq, outer := b.x.All(0), []int(nil)
	for id := range seq {
		outer = append(outer, id)
		if inner := told(seq); !slices.Equal(inner, want) {
			t.Errorf("within %d: %v, want %v", id, inner, want)
		}
		if inner := told(b.x.All(1)); !slices.Equal(inner, other) {
			t.Errorf("within %d: %v, want %v", id, inner, other)
		}
	}
	if !slices.Equal(outer, want) {
		t.Errorf("around: %v, want %v", outer, want)
	}
}

// W1: what changes a row while it is gone over is not promised, but that it ends and harms nothing is.
func TestAllEndsWhileItChanges(t *testing.T) {
	for i, change := range []func(b both, id int){
		func(b both, id int) { b.unlink(id) },
		func(b both, id int) { b.move(id, 0) },
		func(b both, id int) { b.move(id, 1) },
		func(b both, id int) { b.move(b.x.Front(0), 0) },
		func(b both, id int) { b.unlink(b.x.Back(0)) },
		func(b both, id int) { b.push(0, id+100, 1) },
		func(b both, id int) { b.reweigh(id, id) },
		func(b both, id int) { b.unlink(id); b.push(0, id, 1) },
		func(b both, id int) { b.unlink(id + 1); b.unlink(id) },
		func(b both, id int) { b.move(id+1, 1); b.move(id+2, 0) },
	} {
		b, turns := rows(t, []int{1, 2, 3, 4, 5, 6, 7, 8}, []int{9}), 0
		for id := range b.x.All(0) {
			if id < 1 {
				t.Errorf("change %d: %d is told", i, id)
			}
			change(b, id)
			if turns++; turns > 1000 {
				t.Fatalf("change %d: it does not end", i)
			}
		}
		b.same("changed")
	}
}

// P7.5: what is pushed, wherever, and moved and reweighed meanwhile, and unlinked leaves all as it was.
func TestPushedAndUnlinked(t *testing.T) {
	all := [][]int{{1, 2, 3}, {4}, nil}
	b := rows(t, all...)
	for list := range 3 {
		b.is(api.OK, b.push(list, 8, 77))
		b.is(api.OK, b.unlink(8))
		for row, want := range all {
			b.holds(row, want...)
		}
		for to := range 3 {
			b.is(api.OK, b.push(list, 8, 77))
			b.is(api.OK, b.push(to, 9, 5))
			b.is(api.OK, b.move(8, to))
			b.is(api.OK, b.reweigh(8, 78))
			b.is(api.OK, b.unlink(9))
			b.is(api.OK, b.unlink(8))
			for row, want := range all {
				b.holds(row, want...)
			}
		}
	}
	if len(b.x.elements) != 4 {
		t.Errorf("%d elements are kept, want 4", len(b.x.elements))
	}
}

// P7.1, P7.3: all numbers that may be, each at the greatest weight, in one row; then all are moved to another, and unlinked.
func TestMaxNodes(t *testing.T) {
	x := New(2)
	for id := 1; id <= api.MaxNodes; id++ {
		if e := x.Push(0, id, api.MaxWeight); e != api.OK || x.Len(0) != id || x.Weight(0) != id<<31 || x.Back(0) != id {
			t.Fatalf("Push(%d) = %v, Len %d, Weight %d", id, e, x.Len(0), x.Weight(0))
		}
	}
	full(t, x, 0, func(i int) int { return i + 1 })
	for id := api.MaxNodes; id >= 1; id-- {
		if e := x.Move(id, 1); e != api.OK || x.Len(0) != id-1 || x.Weight(0) != (id-1)<<31 || x.Back(0) != id-1 {
			t.Fatalf("Move(%d) = %v, Len %d, Weight %d", id, e, x.Len(0), x.Weight(0))
		}
	}
	full(t, x, 1, func(i int) int { return api.MaxNodes - i })
	for id := 1; id <= api.MaxNodes; id++ {
		if e := x.Unlink(id); e != api.OK || x.Len(1) != api.MaxNodes-id {
			t.Fatalf("Unlink(%d) = %v, Len %d", id, e, x.Len(1))
		}
	}
	both{t, x, newPlain(2)}.same("all unlinked")
}

// full tells that a row is all numbers that may be, in that order, and weighs what they do.
func full(t *testing.T, x *Lists, list int, at func(int) int) {
	t.Helper()
	row := told(x.All(list))
	if len(row) != api.MaxNodes || x.Len(list) != api.MaxNodes || x.Weight(list) != 1<<47 {
		t.Fatalf("row %d: All tells %d, Len %d, Weight %d", list, len(row), x.Len(list), x.Weight(list))
	}
	for i, id := range row {
		if id != at(i) {
			t.Fatalf("row %d: at %d is %d, want %d", list, i, id, at(i))
		}
	}
	if x.Front(list) != at(0) || x.Back(list) != at(api.MaxNodes-1) {
		t.Fatalf("row %d: Front %d, Back %d", list, x.Front(list), x.Back(list))
	}
}

// call does the call of that number, from 0 to 2 * ids * (lists + 1) - 1: each pushes, moves, unlinks or reweighs one of so many ids.
func (b both) call(do, lists, ids, weight int) {
	b.t.Helper()
	id := 1 + do%ids
	switch kind := do / ids; {
	case kind < lists:
		b.push(kind, id, weight)
	case kind < 2*lists:
		b.move(id, kind-lists)
	case kind == 2*lists:
		b.unlink(id)
	default:
		b.reweigh(id, weight)
	}
}

// P7.1 to P7.5: every row of four such calls on two rows and three numbers.
func TestEveryRowOfCalls(t *testing.T) {
	const lists, ids, calls, length = 2, 3, 18, 4
	turns := 1
	for range length {
		turns *= calls
	}
	for turn := range turns {
		b, left := newBoth(t, lists), turn
		for i := range length {
			b.call(left%calls, lists, ids, i+1)
			left /= calls
		}
		b.same("a row of calls")
	}
}

// P7.1 to P7.5: lists go with the plain ones through long rows of calls, wrong ones among them; behind each call weights and lengths are those of what All tells.
func TestAsThePlainOnes(t *testing.T) {
	for _, lists := range []int{0, 1, 2, 3, 16} {
		for _, seed := range testkeys.Seeds() {
			b, chance := newBoth(t, lists), uint64(seed)
			next := func(k int) int {
				chance = chance*6364136223846793005 + 1442695040888963407
				return int(chance >> 33 % uint64(k))
			}
			for range 1500 {
				list, id, weight := next(lists+2)-1, next(14)-1, next(50)-2
				switch next(8) {
				case 0, 1, 2:
					b.push(list, id, weight)
				case 3, 4:
					b.move(id, list)
				case 5:
					b.unlink(id)
				case 6:
					b.reweigh(id, weight)
				default:
					b.reweigh(id, testkeys.At(next(1000)))
				}
				b.same("as it goes")
			}
		}
	}
}

// P7.3: what asks only changes nothing.
func TestAskingChangesNothing(t *testing.T) {
	b := rows(t, []int{1, 2, 3}, nil, []int{4})
	for at := -3; at < 20; at++ {
		b.x.Front(at)
		b.x.Back(at)
		b.x.Of(at)
		b.x.Weight(at)
		b.x.Len(at)
		told(b.x.All(at))
	}
	b.same("asked")
	if len(b.x.rows) != 3 || len(b.x.elements) != 4 {
		t.Errorf("%d rows and %d elements are kept, want 3, 4", len(b.x.rows), len(b.x.elements))
	}
}

// P7.1: lists share nothing, be they made alike.
func TestListsAreApart(t *testing.T) {
	a, b := rows(t, []int{1, 2, 3}, []int{4}), newBoth(t, 2)
	b.same("the other ones")
	b.is(api.OK, b.push(1, 1, 5))
	b.is(api.OK, b.push(1, 2, 6))
	b.is(api.OK, b.move(1, 0))
	b.is(api.OK, b.unlink(2))
	a.holds(0, 1, 2, 3)
	a.holds(1, 4)
	b.holds(0, 1)
}
