package arena

import (
	"iter"
	"maps"
	"slices"
	"testing"

	"pantry/api"
	"pantry/testkeys"
)

// plain is the chapter's arena in its own words: nodes by numbers, the numbers that were dropped and not given since, the greatest that was given.
type plain struct {
	most     int
	nodes    map[int]api.Node
	dropped  []int // the one that was dropped last is the first
	greatest int
}

func newPlain(most int) *plain { return &plain{most: most, nodes: map[int]api.Node{}} }

func (p *plain) put(n api.Node) (int, api.Errno) {
	if len(p.nodes) == p.most {
		return 0, api.ErrFull
	}
	id := p.greatest + 1
	if len(p.dropped) > 0 {
		id = p.dropped[0]
		p.dropped = p.dropped[1:]
	}
	p.greatest = max(p.greatest, id)
	p.nodes[id] = n
	return id, api.OK
}

func (p *plain) get(id int) (api.Node, api.Errno) {
	n, ok := p.nodes[id]
	if !ok {
		return api.Node{}, api.ErrNone
	}
	return n, api.OK
}

func (p *plain) set(id int, n api.Node) api.Errno {
	if _, ok := p.nodes[id]; !ok {
		return api.ErrNone
	}
	p.nodes[id] = n
	return api.OK
}

func (p *plain) drop(id int) api.Errno {
	if _, ok := p.nodes[id]; !ok {
		return api.ErrNone
	}
	delete(p.nodes, id)
	p.dropped = slices.Insert(p.dropped, 0, id)
	return api.OK
}

// pair is what All tells at once.
type pair struct {
	id   int
	node api.Node
}

func (p *plain) all() []pair {
	var all []pair
	for _, id := range slices.Sorted(maps.Keys(p.nodes)) {
		all = append(all, pair{id, p.nodes[id]})
	}
	return all
}

// told is what going over all of it tells.
func told(seq iter.Seq2[int, api.Node]) []pair {
	var all []pair
	for id, n := range seq {
		all = append(all, pair{id, n})
	}
	return all
}

// ends are numbers that no arena ever gives.
func ends() []int {
	return []int{0, -1, -2, api.MinInt, api.MinInt + 1, api.MaxNodes + 1, 1 << 31, 1 << 32, 1<<32 + 1, api.MaxInt - 1, api.MaxInt}
}

// same holds an arena against a plain one in all that it tells.
func same(t *testing.T, what string, x *Arena, p *plain) {
	t.Helper()
	if x.Most() != p.most || x.Len() != len(p.nodes) {
		t.Fatalf("%s: Most %d, Len %d, want %d, %d", what, x.Most(), x.Len(), p.most, len(p.nodes))
	}
	if got, want := told(x.All()), p.all(); !slices.Equal(got, want) {
		t.Fatalf("%s: All tells %d pairs, want %d, or others: %v, %v", what, len(got), len(want), first(got), first(want))
	}
	for id := -1; id <= p.greatest+2; id++ {
		sameAt(t, what, x, p, id)
	}
	for _, id := range ends() {
		sameAt(t, what, x, p, id)
	}
}

func sameAt(t *testing.T, what string, x *Arena, p *plain, id int) {
	t.Helper()
	n, e := x.Get(id)
	if wantN, wantE := p.get(id); n != wantN || e != wantE {
		t.Fatalf("%s: Get(%d) = %v, %v, want %v, %v", what, id, n, e, wantN, wantE)
	}
}

// first is a piece of a row that a message has room for.
func first(all []pair) []pair { return all[:min(len(all), 10)] }

// both are an arena and a plain one that are handed the same calls; each call is held to what the plain one answers.
type both struct {
	t *testing.T
	x *Arena
	p *plain
}

func newBoth(t *testing.T, most int) both { return both{t, New(most), newPlain(most)} }

func (b both) put(n api.Node) int {
	b.t.Helper()
	id, e := b.x.Put(n)
	if wantID, wantE := b.p.put(n); id != wantID || e != wantE {
		b.t.Fatalf("most %d: Put(%v) = %d, %v, want %d, %v", b.p.most, n, id, e, wantID, wantE)
	}
	return id
}

// gives puts nodes, and holds the numbers that are given to those: 0 where there is no room.
func (b both) gives(want ...int) {
	b.t.Helper()
	for _, w := range want {
		if id := b.put(node(1000 + w)); id != w {
			b.t.Errorf("most %d: %d is given, want %d of %v", b.p.most, id, w, want)
		}
	}
}

func (b both) set(id int, n api.Node) {
	b.t.Helper()
	e := b.x.Set(id, n)
	if want := b.p.set(id, n); e != want {
		b.t.Fatalf("most %d: Set(%d, %v) = %v, want %v", b.p.most, id, n, e, want)
	}
}

func (b both) drop(ids ...int) {
	b.t.Helper()
	for _, id := range ids {
		e := b.x.Drop(id)
		if want := b.p.drop(id); e != want {
			b.t.Fatalf("most %d: Drop(%d) = %v, want %v", b.p.most, id, e, want)
		}
	}
}

func (b both) same(what string) {
	b.t.Helper()
	same(b.t, what, b.x, b.p)
}

// node is the node at a place in a row of nodes of which no two are alike; the first is a zero.
func node(i int) api.Node {
	if i == 0 {
		return api.Node{}
	}
	return api.Node{Key: testkeys.At(i), Weight: -i}
}

// filled are both, with so many nodes put.
func filled(t *testing.T, most, nodes int) both {
	t.Helper()
	b := newBoth(t, most)
	for i := range nodes {
		b.put(node(i))
	}
	return b
}

// P6.1: most at, beside and beyond both ends; what it is made for is what it holds.
func TestNew(t *testing.T) {
	for _, c := range []struct{ most, want int }{
		{api.MinInt, 0}, {-1 << 16, 0}, {-2, 0}, {-1, 0}, {0, 0}, {1, 1}, {2, 2}, {3, 3}, {100, 100},
		{1<<16 - 1, 1<<16 - 1}, {1 << 16, 1 << 16}, {1<<16 + 1, 1 << 16}, {1 << 17, 1 << 16},
		{1 << 32, 1 << 16}, {1<<32 + 1, 1 << 16}, {api.MaxInt - 1, 1 << 16}, {api.MaxInt, 1 << 16},
	} {
		x, p := New(c.most), newPlain(c.want)
		same(t, "new", x, p)
		b := both{t, x, p}
		for i := range c.want {
			if id := b.put(node(i)); id != i+1 || x.Len() != i+1 || x.Most() != c.want {
				t.Fatalf("New(%d): Put number %d gives %d, Len %d, Most %d", c.most, i+1, id, x.Len(), x.Most())
			}
		}
		if id, e := x.Put(node(1)); id != 0 || e != api.ErrFull {
			t.Errorf("New(%d): Put behind %d of them = %d, %v, want 0, ErrFull", c.most, c.want, id, e)
		}
		b.same("filled")
	}
}

// The chapter's example.
func TestExample(t *testing.T) {
	x, ids := New(10), []int{}
	put := func() {
		id, e := x.Put(api.Node{Key: 7})
		if e != api.OK {
			t.Errorf("Put: %v", e)
		}
		ids = append(ids, id)
	}
	put()
	put()
	if e := x.Drop(1); e != api.OK {
		t.Errorf("Drop(1): %v", e)
	}
	put()
	put()
	if !slices.Equal(ids, []int{1, 2, 1, 3}) {
		t.Errorf("the numbers are %v, want 1, 2, 1, 3", ids)
	}
}

// P6.1, P6.2: an arena that holds as many as it may takes none, as often as it is asked, and changes by that in nothing; behind a Drop it takes one.
func TestFull(t *testing.T) {
	for _, most := range []int{0, 1, 2, 7, 100} {
		b := filled(t, most, most)
		for round := range 3 {
			for range 3 {
				if id, e := b.x.Put(node(5)); id != 0 || e != api.ErrFull {
					t.Fatalf("most %d: Put into a full one = %d, %v", most, id, e)
				}
			}
			b.same("full")
			for id := most; id >= 1; id -= 1 + round {
				b.drop(id)
				if b.x.Len() != most-1 {
					t.Fatalf("most %d: Len %d behind a Drop", most, b.x.Len())
				}
				if anew := b.put(node(1000*round + id)); anew != id {
					t.Fatalf("most %d: %d was dropped, %d is given", most, id, anew)
				}
				if id, e := b.x.Put(node(5)); id != 0 || e != api.ErrFull {
					t.Fatalf("most %d: Put, full again, = %d, %v", most, id, e)
				}
			}
		}
		b.same("full again")
	}
}

// P6.2: of the numbers that were dropped the last comes first, each of them once; then one more than the greatest that was ever given.
func TestGivenAnew(t *testing.T) {
	for _, c := range []struct{ puts, drops, want []int }{
		{[]int{1, 2, 3}, nil, []int{4, 5}},
		{[]int{1, 2, 3}, []int{3}, []int{3, 4, 5}},
		{[]int{1, 2, 3}, []int{1}, []int{1, 4, 5}},
		{[]int{1, 2, 3}, []int{1, 2, 3}, []int{3, 2, 1, 4}},
		{[]int{1, 2, 3}, []int{3, 2, 1}, []int{1, 2, 3, 4}},
		{[]int{1, 2, 3}, []int{2, 3, 1}, []int{1, 3, 2, 4}},
		{[]int{1, 2, 3, 4, 5}, []int{4, 1, 5}, []int{5, 1, 4, 6, 7}},
	} {
		b := newBoth(t, 20)
		b.gives(c.puts...)
		b.drop(c.drops...)
		b.gives(c.want...)
	}
}

// P6.2: a number that was dropped, given anew and dropped again is the last again; what was dropped ahead of it waits.
func TestDroppedAgain(t *testing.T) {
	b := filled(t, 20, 5)
	b.drop(2, 4)
	b.gives(4)
	b.drop(5, 4, 1)
	b.gives(1, 4, 5, 2, 6)
	b.same("dropped again")
}

// P6.2: a refused Drop leaves no number to be given anew, nor does a refused Put take one.
func TestRefusedDropGivesNothing(t *testing.T) {
	b := filled(t, 6, 3)
	b.drop(2)
	b.drop(2, 2, 0, -1, 4, 5, api.MinInt, api.MaxInt)
	b.gives(2, 4, 5, 6, 0, 0)
	b.drop(3, 1)
	b.gives(1, 3, 0)
	b.same("refused")
}

// P6.1, P6.2: at MaxNodes: the numbers are those from 1 to it, and all of them come anew, the last first.
func TestMaxNodes(t *testing.T) {
	b := filled(t, api.MaxNodes, api.MaxNodes)
	b.same("full")
	for id := 1; id <= api.MaxNodes; id++ {
		if e := b.x.Drop(id); e != api.OK || b.x.Len() != api.MaxNodes-id {
			t.Fatalf("Drop(%d) = %v, Len %d", id, e, b.x.Len())
		}
	}
	if all := told(b.x.All()); len(all) != 0 {
		t.Errorf("all were dropped, All tells %v", all)
	}
	for want := api.MaxNodes; want >= 1; want-- {
		if id, e := b.x.Put(node(want - 1)); id != want || e != api.OK {
			t.Fatalf("Put = %d, %v, want %d", id, e, want)
		}
	}
	b.same("full again")
	if id, e := b.x.Put(node(1)); id != 0 || e != api.ErrFull {
		t.Errorf("Put = %d, %v, want 0, ErrFull", id, e)
	}
}

// P6.3: of numbers that were never given, that are 0 or below, and that were dropped there is nothing: a zero node, ErrNone, and no change.
func TestNone(t *testing.T) {
	for _, b := range []both{filled(t, 0, 0), filled(t, 1, 0), filled(t, 1, 1), filled(t, 9, 5), filled(t, 5, 5), filled(t, api.MaxNodes, 40)} {
		gone := append(ends(), b.p.greatest+1, b.p.greatest+2, api.MaxNodes)
		for _, id := range []int{1, 3, b.p.greatest} {
			if _, ok := b.p.nodes[id]; ok {
				b.drop(id)
				gone = append(gone, id)
			}
		}
		for _, id := range gone {
			if n, e := b.x.Get(id); n != (api.Node{}) || e != api.ErrNone {
				t.Errorf("most %d: Get(%d) = %v, %v, want a zero, ErrNone", b.p.most, id, n, e)
			}
			if e := b.x.Set(id, api.Node{Key: 3, Weight: 4}); e != api.ErrNone {
				t.Errorf("most %d: Set(%d) = %v, want ErrNone", b.p.most, id, e)
			}
			if e := b.x.Drop(id); e != api.ErrNone {
				t.Errorf("most %d: Drop(%d) = %v, want ErrNone", b.p.most, id, e)
			}
		}
		b.same("refused")
		for range 4 {
			b.put(node(9))
		}
		b.same("put behind the refused")
	}
}

// P6.3: a zero node is held as others are, put or set.
func TestZeroNode(t *testing.T) {
	x := New(2)
	for want := 1; want <= 2; want++ {
		if id, e := x.Put(api.Node{}); id != want || e != api.OK || x.Len() != want {
			t.Errorf("Put of a zero = %d, %v, Len %d, want %d", id, e, x.Len(), want)
		}
	}
	for id := 1; id <= 2; id++ {
		if n, e := x.Get(id); n != (api.Node{}) || e != api.OK {
			t.Errorf("Get(%d) = %v, %v", id, n, e)
		}
		if e := x.Set(id, api.Node{Key: 1, Weight: 1}); e != api.OK {
			t.Errorf("Set(%d) = %v", id, e)
		}
		if e := x.Set(id, api.Node{}); e != api.OK {
			t.Errorf("Set(%d) to a zero = %v", id, e)
		}
	}
	if all := told(x.All()); !slices.Equal(all, []pair{{1, api.Node{}}, {2, api.Node{}}}) {
		t.Errorf("All tells %v", all)
	}
	if x.Drop(1) != api.OK || x.Drop(2) != api.OK || x.Len() != 0 {
		t.Errorf("Drop of zeros: Len %d", x.Len())
	}
}

// P6.3, P6.4: Set changes the node under its number alone, as often as it comes, and gives and takes no number.
func TestSetLeavesOthers(t *testing.T) {
	b := filled(t, 12, 8)
	b.drop(3, 6)
	for i := range 60 {
		b.set(i%10, node(100+i))
		b.same("set")
	}
	b.gives(6, 3, 9)
}

// P6.2, P6.4: a number that is given anew holds what was put then; neither the Drop nor the Put changes what others hold.
func TestGivenAnewLeavesOthers(t *testing.T) {
	b := filled(t, 6, 6)
	for i := range 60 {
		id := 1 + i*i%6
		b.drop(id)
		b.same("dropped")
		if anew := b.put(node(200 + i)); anew != id {
			t.Fatalf("%d was dropped, %d is given", id, anew)
		}
		b.same("put")
	}
}

// P6.3: All tells nothing of an empty arena: a new one, and one of which all was dropped.
func TestAllEmpty(t *testing.T) {
	b := newBoth(t, 3)
	if all := told(b.x.All()); len(all) != 0 {
		t.Errorf("a new one: All tells %v", all)
	}
	b.gives(1, 2, 3)
	b.drop(1, 2, 3)
	if all := told(b.x.All()); len(all) != 0 {
		t.Errorf("all were dropped: All tells %v", all)
	}
}

// P6.3: All tells the numbers that hold nodes, rising, whichever of them are gaps; it does not matter in which order they were given.
func TestAllGaps(t *testing.T) {
	for gaps := range 1 << 6 {
		b := filled(t, 8, 6)
		for id := 1; id <= 6; id++ {
			if gaps>>(id-1)&1 == 1 {
				b.drop(id)
			}
		}
		b.same("gaps")
		b.put(node(50))
		b.put(node(51))
		b.same("gaps filled")
	}
}

// P6.3: who goes over All may stop at each place, at the first too, and begin again: the same iterator tells all from the first on.
func TestAllStops(t *testing.T) {
	b := filled(t, 9, 7)
	b.drop(1, 4)
	want, seq := b.p.all(), b.x.All()
	for stop := range len(want) + 1 {
		var got []pair
		for id, n := range seq {
			got = append(got, pair{id, n})
			if len(got) >= stop {
				break
			}
		}
		if n := max(stop, 1); !slices.Equal(got, want[:n]) {
			t.Errorf("stopped at %d: %v, want %v", n, got, want[:n])
		}
		if again := told(seq); !slices.Equal(again, want) {
			t.Errorf("begun again: %v, want %v", again, want)
		}
	}
	asked := 0
	seq(func(int, api.Node) bool { asked++; return false })
	if asked != 1 {
		t.Errorf("who stops at the first is told %d", asked)
	}
	b.same("gone over")
}

// P6.3: two go over All at once, one within the other, and neither is in the other's way.
func TestAllWithinAll(t *testing.T) {
	b := filled(t, 9, 7)
	b.drop(2, 7)
	want, seq, outer := b.p.all(), b.x.All(), []pair(nil)
	for id, n := range seq {
		outer = append(outer, pair{id, n})
		if inner := told(seq); !slices.Equal(inner, want) {
			t.Errorf("within %d: %v, want %v", id, inner, want)
		}
	}
	if !slices.Equal(outer, want) {
		t.Errorf("around: %v, want %v", outer, want)
	}
}

// P6.3: All tells numbers and nodes as they are when it is gone over, not as they were when it was asked for.
func TestAllBehindChanges(t *testing.T) {
	b := newBoth(t, 5)
	seq := b.x.All()
	check := func(what string) {
		t.Helper()
		if got, want := told(seq), b.p.all(); !slices.Equal(got, want) {
			t.Errorf("%s: %v, want %v", what, got, want)
		}
	}
	check("empty")
	for i := range 5 {
		b.put(node(i))
		check("put")
	}
	b.set(2, node(20))
	check("set")
	b.drop(5, 1)
	check("dropped")
	b.put(node(30))
	check("put anew")
	b.drop(1, 2, 3, 4)
	check("all dropped")
}

// W1: what changes while it is gone over is not promised, but that it ends and harms nothing is.
func TestAllEndsWhileItChanges(t *testing.T) {
	const most = 50
	for _, change := range []func(x *Arena, id int){
		func(x *Arena, id int) { x.Put(node(1)) },
		func(x *Arena, id int) { x.Drop(id) },
		func(x *Arena, id int) { x.Drop(id); x.Put(node(2)) },
		func(x *Arena, id int) { x.Drop(id); x.Drop(id + 1); x.Drop(most - id); x.Put(node(3)) },
	} {
		x, turns := filled(t, most, 20).x, 0
		for id := range x.All() {
			change(x, id)
			if turns++; turns > 10*most {
				t.Fatal("it does not end")
			}
		}
		if n := len(told(x.All())); n != x.Len() || n > most {
			t.Errorf("All tells %d behind it, Len %d", n, x.Len())
		}
	}
}

// P6.1 to P6.4: every row of seven calls on small arenas: a Put, a Set, or the Drop of one of three numbers.
func TestEveryRowOfCalls(t *testing.T) {
	const calls, length = 5, 7
	rows := 1
	for range length {
		rows *= calls
	}
	for _, most := range []int{0, 1, 2, 3} {
		for row := range rows {
			b, left := newBoth(t, most), row
			for i := range length {
				switch do := left % calls; do {
				case 0:
					b.put(node(i))
				case 4:
					b.set(1+i%3, node(10+i))
				default:
					b.drop(do)
				}
				left /= calls
			}
			b.same("a row of calls")
		}
	}
}

// P6.1 to P6.4: an arena goes with the plain one through long rows of calls, while it fills, empties, and fills again.
func TestAsThePlainOne(t *testing.T) {
	for _, most := range []int{0, 1, 2, 5, 30, 200} {
		for _, seed := range testkeys.Seeds() {
			b, chance := newBoth(t, most), uint64(seed)
			next := func(k int) int {
				chance = chance*6364136223846793005 + 1442695040888963407
				return int(chance >> 33 % uint64(k))
			}
			for i := range 3000 {
				// Puts and drops are the more by turns.
				puts := 2 + 4*(i/500%2)
				switch do := next(10); {
				case do < puts:
					b.put(node(i))
				case do < 8:
					b.drop(next(most+4) - 1)
				default:
					b.set(next(most+4)-1, node(i))
				}
				if i%(1+most) == 0 {
					b.same("as it goes")
				}
			}
			b.same("at the end")
		}
	}
}

// P6.4: no two nodes have one number: each number that is given was free, and lies from 1 to Most.
func TestNumbersAreApart(t *testing.T) {
	x, held := New(40), map[int]bool{}
	for i := range 5000 {
		if i%7 < 4 {
			id, e := x.Put(node(i))
			if e == api.ErrFull && len(held) == 40 {
				continue
			}
			if e != api.OK || held[id] || id < 1 || id > 40 {
				t.Fatalf("call %d: Put = %d, %v, %d held", i, id, e, len(held))
			}
			held[id] = true
			continue
		}
		id := i * i % 43
		if e := x.Drop(id); (e == api.OK) != held[id] {
			t.Fatalf("call %d: Drop(%d) = %v, held: %v", i, id, e, held[id])
		}
		delete(held, id)
		if x.Len() != len(held) {
			t.Fatalf("call %d: Len %d, want %d", i, x.Len(), len(held))
		}
	}
}

// P6.1, P6.3: what asks only changes nothing.
func TestAskingChangesNothing(t *testing.T) {
	b := filled(t, 9, 6)
	b.drop(2, 5)
	for id := -3; id < 12; id++ {
		b.x.Get(id)
		b.x.Len()
		b.x.Most()
		b.x.All()
		told(b.x.All())
	}
	b.same("asked")
	b.gives(5, 2, 7)
}

// P6.1: arenas share nothing, be they made alike.
func TestArenasAreApart(t *testing.T) {
	a, b := filled(t, 5, 5), newBoth(t, 5)
	a.drop(4, 2)
	b.same("the other one")
	b.put(node(60))
	b.set(1, node(61))
	b.drop(1)
	a.same("the one")
	a.gives(2, 4)
}
