package policy

import (
	"slices"
	"testing"

	"pantry/api"
	"pantry/climb"
	"pantry/filter"
	"pantry/quota"
)

// most is the most that a cache holds, as the chapter names it.
const most = 1<<62 - 1

// plain is the chapter's policy in its own words: its rows are lists of numbers, and nothing is added up but when it is asked.
type plain struct {
	often   *filter.Filter
	width   int
	rows    [3][]int
	keys    map[int]int
	weights map[int]int
	quota   api.Quota
	climb   api.Climb
}

func within(n, low, high int) int { return max(low, min(n, high)) }

func newPlain(capacity, seed int) *plain {
	width := within(capacity, 1, 1<<16)
	capacity = within(capacity, 0, most)
	return &plain{
		often: filter.New(width, seed), width: width,
		keys: map[int]int{}, weights: map[int]int{},
		quota: quota.Of(capacity), climb: climb.New(capacity),
	}
}

// rowOf is the row of a node; -1, if it is in none.
func (p *plain) rowOf(id int) int {
	for row := range p.rows {
		if slices.Contains(p.rows[row], id) {
			return row
		}
	}
	return -1
}

func (p *plain) weightOf(rows ...int) int {
	sum := 0
	for _, row := range rows {
		for _, id := range p.rows[row] {
			sum += p.weights[id]
		}
	}
	return sum
}

func (p *plain) weight() int { return p.weightOf(0, 1, 2) }

func (p *plain) unlink(id int) {
	if row := p.rowOf(id); row >= 0 {
		at := slices.Index(p.rows[row], id)
		p.rows[row] = slices.Delete(p.rows[row], at, at+1)
	}
}

func (p *plain) move(id, row int) {
	p.unlink(id)
	p.rows[row] = append(p.rows[row], id)
}

func (p *plain) heavy(weight int) bool { return weight > 1<<31 || weight > p.quota.Capacity }

func (p *plain) do(e api.Event) ([]int, api.Errno) {
	in := p.rowOf(e.Node) >= 0
	if e.Do == 1 {
		return p.add(e, in)
	}
	if e.Do != 2 && e.Do != 3 && e.Do != 4 {
		return nil, api.ErrArg
	}
	if !in {
		return nil, api.ErrNone
	}
	if e.Do == 4 {
		p.unlink(e.Node)
		return nil, api.OK
	}
	if e.Do == 2 {
		p.read(e.Node)
		return nil, api.OK
	}
	if e.Weight < 0 {
		return nil, api.ErrArg
	}
	if p.heavy(e.Weight) {
		return nil, api.ErrTooHeavy
	}
	p.weights[e.Node] = e.Weight
	p.read(e.Node)
	return p.settle(), api.OK
}

func (p *plain) add(e api.Event, in bool) ([]int, api.Errno) {
	if e.Node < 1 || e.Node > 1<<16 || e.Weight < 0 {
		return nil, api.ErrArg
	}
	if p.heavy(e.Weight) {
		return nil, api.ErrTooHeavy
	}
	if in {
		return nil, api.ErrTwice
	}
	p.often.Record(e.Key)
	p.count(false)
	p.keys[e.Node], p.weights[e.Node] = e.Key, e.Weight
	p.move(e.Node, 0)
	return p.settle(), api.OK
}

func (p *plain) read(id int) {
	p.often.Record(p.keys[id])
	switch p.rowOf(id) {
	case 0:
		p.move(id, 0)
	case 1:
		p.move(id, 2)
		p.lighten()
	case 2:
		p.move(id, 2)
	}
	p.count(true)
}

// lighten moves the first of protected to probation, as long as protected weighs more than its quota.
func (p *plain) lighten() {
	for p.weightOf(2) > p.quota.Protected {
		p.move(p.rows[2][0], 1)
	}
}

func (p *plain) count(hit bool) {
	p.climb = climb.Count(p.climb, hit)
	if climb.Due(p.climb, 10*p.width) {
		var far int
		p.climb, far = climb.Turn(p.climb, p.quota.Capacity)
		p.quota = quota.Shift(p.quota, far)
	}
	p.lighten()
}

func (p *plain) settle() []int {
	for p.weightOf(0) > p.quota.Window {
		p.move(p.rows[0][0], 1)
	}
	var gone []int
	for p.weight() > p.quota.Capacity {
		id := p.goes()
		p.unlink(id)
		gone = append(gone, id)
	}
	return gone
}

func (p *plain) goes() int {
	if len(p.rows[1]) == 0 && len(p.rows[2]) == 0 {
		return p.rows[0][0]
	}
	if len(p.rows[1]) == 0 {
		return p.rows[2][0]
	}
	victim, candidate := p.rows[1][0], p.rows[1][len(p.rows[1])-1]
	if victim == candidate || p.often.Better(p.keys[candidate], p.keys[victim]) {
		return victim
	}
	return candidate
}

// both are a policy and a plain one that are handed the same events; each is held to what the plain one answers, and to all that it tells.
type both struct {
	t *testing.T
	x *Policy
	p *plain
}

func newBoth(t *testing.T, capacity, seed int) both {
	return both{t, New(capacity, seed), newPlain(capacity, seed)}
}

// do hands an event to both.
func (b both) do(e api.Event) ([]int, api.Errno) {
	b.t.Helper()
	gone, err := b.x.Do(e)
	want, wantErr := b.p.do(e)
	if err != wantErr || !slices.Equal(gone, want) {
		b.t.Fatalf("Do(%+v) = %v, %v, want %v, %v", e, gone, err, want, wantErr)
	}
	b.same(e)
	return gone, err
}

// goes tells that those have to go of an event, in that order.
func (b both) goes(e api.Event, want ...int) {
	b.t.Helper()
	if gone, err := b.do(e); err != api.OK || !slices.Equal(gone, want) {
		b.t.Fatalf("Do(%+v) = %v, %v, want %v, OK", e, gone, err, want)
	}
}

// none tells of events, one by one, that none has to go.
func (b both) none(l ...api.Event) {
	b.t.Helper()
	for _, e := range l {
		b.goes(e)
	}
}

// refuses tells that an event is refused, so that nothing changes.
func (b both) refuses(want api.Errno, e api.Event) {
	b.t.Helper()
	before := told(b.x)
	if gone, err := b.do(e); err != want || gone != nil {
		b.t.Fatalf("Do(%+v) = %v, %v, want none, %v", e, gone, err, want)
	}
	if after := told(b.x); !before.is(after) {
		b.t.Fatalf("Do(%+v) is refused, and changes %+v to %+v", e, before, after)
	}
}

// holds tells which nodes are in the window, in probation and in protected.
func (b both) holds(window, probation, protected []int) {
	b.t.Helper()
	for row, want := range [][]int{window, probation, protected} {
		if got := b.x.Row(row); !slices.Equal(got, want) {
			b.t.Fatalf("the row %d is %v, want %v", row, got, want)
		}
	}
}

// same holds a policy against the plain one, behind an event.
func (b both) same(e api.Event) {
	b.t.Helper()
	for row := range 3 {
		if got := b.x.Row(row); !slices.Equal(got, b.p.rows[row]) {
			b.t.Fatalf("behind %+v: the row %d is %v, want %v", e, row, got, b.p.rows[row])
		}
		for _, id := range b.p.rows[row] {
			b.sameKey(e, id)
		}
	}
	for _, id := range []int{e.Node, e.Node - 1, e.Node + 1, 0, 1, 2, 3} {
		b.sameKey(e, id)
	}
	if b.x.Weight() != b.p.weight() || b.x.Quota() != b.p.quota || b.x.Climb() != b.p.climb {
		b.t.Fatalf("behind %+v: weight %d, %+v, %+v, want %d, %+v, %+v", e, b.x.Weight(), b.x.Quota(), b.x.Climb(), b.p.weight(), b.p.quota, b.p.climb)
	}
	for _, key := range []int{e.Key, e.Key + 1, -e.Key, e.Node, b.p.keys[e.Node]} {
		if b.x.Often(key) != b.p.often.Often(key) {
			b.t.Fatalf("behind %+v: Often(%d) = %d, want %d", e, key, b.x.Often(key), b.p.often.Often(key))
		}
	}
}

func (b both) sameKey(e api.Event, id int) {
	b.t.Helper()
	key, is := b.x.Key(id)
	want, in := 0, b.p.rowOf(id) >= 0
	if in {
		want = b.p.keys[id]
	}
	if key != want || is != in {
		b.t.Fatalf("behind %+v: Key(%d) = %d, %v, want %d, %v", e, id, key, is, want, in)
	}
}

// picture is all that a policy tells, of few keys.
type picture struct {
	rows   [3][]int
	keys   [3][]int
	weight int
	often  []int
	quota  api.Quota
	climb  api.Climb
}

func told(x *Policy) picture {
	s := picture{weight: x.Weight(), quota: x.Quota(), climb: x.Climb()}
	for row := range 3 {
		s.rows[row] = x.Row(row)
		for _, id := range s.rows[row] {
			key, _ := x.Key(id)
			s.keys[row] = append(s.keys[row], key)
		}
	}
	for key := -5; key < 60; key++ {
		s.often = append(s.often, x.Often(key))
	}
	return s
}

func (s picture) is(o picture) bool {
	for row := range 3 {
		if !slices.Equal(s.rows[row], o.rows[row]) || !slices.Equal(s.keys[row], o.keys[row]) {
			return false
		}
	}
	return s.weight == o.weight && slices.Equal(s.often, o.often) && s.quota == o.quota && s.climb == o.climb
}

func add(node, key, weight int) api.Event {
	return api.Event{Do: api.DoAdd, Node: node, Key: key, Weight: weight}
}

func read(node int) api.Event { return api.Event{Do: api.DoRead, Node: node} }

func update(node, weight int) api.Event {
	return api.Event{Do: api.DoUpdate, Node: node, Weight: weight}
}

func remove(node int) api.Event { return api.Event{Do: api.DoRemove, Node: node} }

// adds adds nodes of that weight, from one number to another; the key of each is ten times its number.
func adds(from, to, weight int) []api.Event {
	var l []api.Event
	for id := from; id <= to; id++ {
		l = append(l, add(id, 10*id, weight))
	}
	return l
}

func reads(nodes ...int) []api.Event {
	var l []api.Event
	for _, id := range nodes {
		l = append(l, read(id))
	}
	return l
}
