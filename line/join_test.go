package line_test

import (
	"math"
	"slices"
	"testing"

	"seisin/api"
	"seisin/line"
)

// join is Join, by the document's words.
func (v *log) join(prev, term int, items []api.Item) (int, bool) {
	if prev <= -1 || prev >= v.last+1 {
		return 0, false
	}
	if here, _ := v.termAt(prev); prev >= v.base && here != term {
		return 0, false
	}
	first := 0
	for k, it := range items {
		if !rightBy(it) {
			return 0, false
		}
		here, ok := v.termAt(prev + 1 + k)
		if other := !ok || here != it.Term; first == 0 && prev+1+k > v.base && other {
			first = prev + 1 + k
		}
	}
	if first == 0 {
		return 0, true
	}
	last := prev + len(items)
	if last > highest || last-v.base > mostItems {
		return 0, false
	}
	for i := first; i <= v.last; i++ {
		delete(v.items, i)
	}
	for i := first; i <= last; i++ {
		v.items[i] = ownItem(items[i-prev-1])
	}
	v.last = last
	return first, true
}

// join holds Join against the document's words; what was handed in must stay.
func (p pair) join(t *testing.T, prev, term int, items []api.Item) (int, bool) {
	t.Helper()
	base, last := p.v.base, p.v.last
	at, ok := p.v.join(prev, term, items)
	var was []api.Item
	if len(items) < 100 {
		was = ownItems(items)
	}
	if got, gotOk := p.l.Join(prev, term, items); got != at || gotOk != ok {
		t.Fatalf("base %d, last %d: %d items behind %d of term %d: %d, %v, not %d, %v", base, last, len(items), prev, term, got, gotOk, at, ok)
	}
	if len(items) < 100 && !sameItems(items, was) {
		t.Fatal("what was joined has changed")
	}
	return at, ok
}

// joins is join, with the answer that is known, behind which the line is looked
// at.
func (p pair) joins(t *testing.T, what string, prev, term int, items []api.Item, at int, ok bool) {
	t.Helper()
	if got, gotOk := p.join(t, prev, term, items); got != at || gotOk != ok {
		t.Fatalf("%s: %d, %v, not %d, %v", what, got, gotOk, at, ok)
	}
	p.is(t, what)
}

// wrongOnes are items that aren't right.
func wrongOnes() []api.Item {
	list := []api.Item{{B: make([]byte, mostItem+1)}, {B: make([]byte, mostItem+2)}, {B: make([]byte, 70000)},
		{Term: highest, B: make([]byte, mostItem+1)}, {Term: -1, B: make([]byte, mostItem+1)}}
	for _, term := range []int{-1, -2, -256, -highest, math.MinInt, highest + 1, highest + 2, 2 * highest, 1 << 62, math.MaxInt} {
		list = append(list, api.Item{Term: term}, api.Item{Term: term, B: []byte("ab")})
	}
	return list
}

// edgeOnes are items that are right, but just so.
func edgeOnes() []api.Item {
	return []api.Item{{}, {Term: highest}, {B: make([]byte, mostItem)}, {Term: highest, B: row(1, mostItem)}, {Term: highest - 1, B: row(2, mostItem-1)}, {B: []byte{}}}
}

// terms calls do with all rows of at most so many terms, each from 1 to most.
func terms(many, most int, do func(row []int)) {
	row := []int{}
	var next func()
	next = func() {
		do(row)
		if len(row) == many {
			return
		}
		for term := 1; term <= most; term++ {
			row = append(row, term)
			next()
			row = row[:len(row)-1]
		}
	}
	next()
}

// P17.2: Add

func TestAdd(t *testing.T) {
	for _, base := range []int{0, 1, 7, 65534, highest - 40} {
		p := fresh(t, base, 5)
		for k, it := range append(edgeOnes(), ofTerms(3, 4, 2, 9, 0, 1)...) {
			if got := p.add(t, it); got != base+k+1 {
				t.Fatalf("base %d: the item of index %d comes to %d", base, base+k+1, got)
			}
			p.is(t, "behind an item")
		}
		p.whole(t, "behind items")
	}
}

func TestAddOfItemsThatArentRight(t *testing.T) {
	for _, p := range append(few(t), fresh(t, 0, 0)) {
		for _, it := range wrongOnes() {
			if got := p.add(t, it); got != 0 {
				t.Fatalf("an item of term %d with %d bytes comes to %d", it.Term, len(it.B), got)
			}
			p.is(t, "behind what isn't right")
		}
	}
}

func TestAddWithoutRoom(t *testing.T) {
	for _, base := range []int{0, 3, highest - mostItems - 1, highest - mostItems, highest - mostItems + 1, highest - 2, highest - 1, highest} {
		p := fresh(t, base, 1)
		room := min(mostItems, highest-base)
		for k := range room {
			if got := p.add(t, api.Item{Term: 2, B: []byte{byte(k)}}); got != base+k+1 {
				t.Fatalf("base %d: %d items, and no room", base, k)
			}
		}
		for _, it := range append(edgeOnes(), wrongOnes()...) {
			if got := p.add(t, it); got != 0 {
				t.Fatalf("base %d: %d items, and room for one at %d", base, room, got)
			}
		}
		p.is(t, "without room")
		// A base that goes up makes room, but for an index that is too great.
		if room < 2 {
			continue
		}
		p.drop(t, base+2)
		for k := range 3 {
			want := 0
			if k < 2 && base+room+k < highest {
				want = base + room + k + 1
			}
			if got := p.add(t, api.Item{Term: 3}); got != want {
				t.Fatalf("base %d, up by 2: %d, not %d", base, got, want)
			}
		}
		p.is(t, "with new room")
	}
}

// Drop

func TestDrop(t *testing.T) {
	for k, p := range few(t) {
		for i := p.v.base - 3; i <= p.v.last+3; i++ {
			one := few(t)[k]
			want := i >= p.v.base && i <= p.v.last
			if got := one.drop(t, i); got != want {
				t.Fatalf("base %d, last %d: Drop of %d: %v", p.v.base, p.v.last, i, got)
			}
			one.whole(t, "behind Drop")
			if want && i > p.v.base && one.drop(t, i-1) {
				t.Fatalf("base %d: what is ahead of it is there", i)
			}
			one.is(t, "behind a second Drop")
			one.add(t, api.Item{Term: 6, B: []byte("new")})
			one.whole(t, "behind Drop and Add")
		}
		for _, i := range wide() {
			if i < p.v.base || i > p.v.last {
				if p.drop(t, i) {
					t.Fatalf("base %d, last %d: Drop of %d", p.v.base, p.v.last, i)
				}
				p.is(t, "behind no Drop")
			}
		}
	}
}

func TestDropOneByOne(t *testing.T) {
	p := filled(t, 5, 9, ofTerms(1, 1, 2, 2, 3, 5, 4))
	for i, want := range []int{9, 1, 2, 2, 3, 5, 4} {
		if !p.drop(t, 5+i) || !p.drop(t, 5+i) {
			t.Fatal("no Drop", i)
		}
		if index, term := p.l.Base(); index != 5+i || term != want {
			t.Fatal(i, index, term)
		}
		p.whole(t, "one by one")
	}
	if i, term := p.l.Last(); i != 11 || term != 4 || len(p.l.From(11, 5)) > 0 {
		t.Error(i, term)
	}
}

// Join

// The document's example.
func TestJoinOfTheExample(t *testing.T) {
	l := line.New(4, 0)
	for _, term := range []int{1, 1, 2} {
		l.Add(api.Item{Term: term})
	}
	if at, ok := l.Join(6, 1, []api.Item{{Term: 3}}); at != 7 || !ok {
		t.Error(at, ok)
	}
	if i, term := l.Last(); i != 7 || term != 3 {
		t.Error(i, term)
	}
}

func TestJoinByHand(t *testing.T) {
	for _, c := range []struct {
		what       string
		prev, term int
		join       []int
		at         int
		ok         bool
		want       []int
	}{
		{"behind all", 14, 3, []int{3, 4}, 15, true, []int{1, 2, 2, 3, 3, 4}},
		{"behind all, nothing", 14, 3, nil, 0, true, []int{1, 2, 2, 3}},
		{"behind all, of another term", 14, 2, []int{3}, 0, false, []int{1, 2, 2, 3}},
		{"behind the last", 15, 3, []int{3}, 0, false, []int{1, 2, 2, 3}},
		{"behind the last, nothing", 15, 3, nil, 0, false, []int{1, 2, 2, 3}},
		{"the last one is another one", 13, 2, []int{4}, 14, true, []int{1, 2, 2, 4}},
		{"another one in the middle", 11, 1, []int{3}, 12, true, []int{1, 3}},
		{"another one of a lesser term", 11, 1, []int{2, 1}, 13, true, []int{1, 2, 1}},
		{"all the same, and shorter", 11, 1, []int{2, 2}, 0, true, []int{1, 2, 2, 3}},
		{"all the same, and as long", 11, 1, []int{2, 2, 3}, 0, true, []int{1, 2, 2, 3}},
		{"all the same, and longer", 11, 1, []int{2, 2, 3, 5}, 15, true, []int{1, 2, 2, 3, 5}},
		{"the same behind another one", 11, 1, []int{9, 2, 3}, 12, true, []int{1, 9, 2, 3}},
		{"in the middle, nothing", 12, 2, nil, 0, true, []int{1, 2, 2, 3}},
		{"in the middle, of another term", 12, 1, []int{7}, 0, false, []int{1, 2, 2, 3}},
		{"behind the base", 10, 8, []int{1, 7}, 12, true, []int{1, 7}},
		{"behind the base, of another term", 10, 1, []int{1, 7}, 0, false, []int{1, 2, 2, 3}},
		{"ahead of the base, of any term", 9, 99, []int{5, 1, 2, 7}, 13, true, []int{1, 2, 7}},
		{"ahead of the base, up to it", 7, -5, []int{5, 5, 5}, 0, true, []int{1, 2, 2, 3}},
		{"ahead of the base, not up to it", 7, 5, []int{5}, 0, true, []int{1, 2, 2, 3}},
		{"ahead of the base, one behind it", 7, 5, []int{5, 5, 5, 5}, 11, true, []int{5}},
		{"ahead of all", 0, 0, []int{1, 1, 1, 1, 1, 1, 1, 1, 1, 1, 4}, 11, true, []int{4}},
		{"below 0", -1, 0, []int{1}, 0, false, []int{1, 2, 2, 3}},
	} {
		p := filled(t, 10, 8, ofTerms(20, 1, 2, 2, 3))
		p.joins(t, c.what, c.prev, c.term, ofTerms(50, c.join...), c.at, c.ok)
		var got []int
		for _, it := range p.l.From(11, 99) {
			got = append(got, it.Term)
		}
		if !slices.Equal(got, c.want) {
			t.Errorf("%s: %v, not %v", c.what, got, c.want)
		}
		p.whole(t, c.what)
	}
}

// All lines of at most three items, and all items of at most three, of three
// terms each, behind each index, of each term.
func TestAllSmallJoins(t *testing.T) {
	joined := 0
	for base := range 3 {
		terms(3, 3, func(have []int) {
			for prev := -1; prev <= base+4; prev++ {
				for term := range 4 {
					terms(3, 3, func(come []int) {
						p := filled(t, base, 1, ofTerms(7, have...))
						if at, _ := p.join(t, prev, term, ofTerms(40, come...)); at > 0 {
							joined++
						}
						p.is(t, "a small join")
					})
				}
			}
		})
	}
	if joined < 1000 {
		t.Errorf("only %d were joined", joined)
	}
}

// An item of the same index and term stays with the bytes that it has here;
// those from the first other one on come with theirs.
func TestJoinLeavesWhatIsThere(t *testing.T) {
	for from := range 6 {
		ours, theirs := ofTerms(11, 1, 1, 2, 2, 3), ofTerms(71, 1, 1, 2, 2, 3)
		if from < 5 {
			theirs[from].Term = 9
		}
		p := filled(t, 4, 1, ours)
		want := slices.Concat(ours[:from], theirs[from:])
		at := 0
		if from < 5 {
			at = 5 + from
		}
		p.joins(t, "bytes", 4, 1, theirs, at, true)
		if !sameItems(p.l.From(5, 9), want) {
			t.Errorf("from %d on: other bytes", from)
		}
	}
}

// Terms of the same row, one index further, are others.
func TestJoinHoldsItemsOfOneIndexAgainstEachOther(t *testing.T) {
	for shift := range 5 {
		p := filled(t, 0, 0, ofTerms(3, 1, 2, 3, 4, 5))
		term, _ := p.v.termAt(shift)
		p.joins(t, "the same", shift, term, ofTerms(9, []int{1, 2, 3, 4, 5}[shift:]...), 0, true)
		if shift > 0 {
			p.joins(t, "shifted", shift, term, ofTerms(9, []int{1, 2, 3, 4, 5}[shift-1:]...), shift+1, true)
		}
	}
}

func TestJoinBehindIndicesOfAnySize(t *testing.T) {
	for _, p := range few(t) {
		for _, prev := range wide() {
			for _, items := range [][]api.Item{nil, ofTerms(1, 3), ofTerms(2, 1, 4)} {
				c := p.copied(t)
				term, _ := c.v.termAt(prev)
				c.join(t, prev, term, items)
				c.is(t, "behind an index of any size")
			}
		}
		for _, term := range wide() {
			c := p.copied(t)
			c.join(t, c.v.base, term, ofTerms(1, 3))
			c.is(t, "of a term of any size")
			c = p.copied(t)
			c.join(t, c.v.last, term, nil)
			c.is(t, "of a term of any size, nothing")
			c = p.copied(t)
			c.join(t, c.v.base-1, term, ofTerms(1, 3, 4))
			c.is(t, "ahead of the base, of a term of any size")
		}
	}
}

// One item that isn't right is enough, wherever it stands: also where items are
// passed over.
func TestJoinOfItemsThatArentRight(t *testing.T) {
	for prev := 1; prev <= 6; prev++ {
		p := filled(t, 3, 1, ofTerms(5, 1, 2, 3))
		term, _ := p.v.termAt(prev)
		for _, many := range []int{1, 2, 5, 8} {
			for place := range many {
				for _, it := range wrongOnes() {
					items := ofTerms(9, []int{7, 1, 1, 2, 3, 4, 4, 5}[:many]...)
					items[place] = it
					p.joins(t, "what isn't right", prev, term, items, 0, false)
				}
			}
		}
	}
	// Nothing else would change.
	p := filled(t, 3, 1, ofTerms(5, 1, 2, 3))
	for place := range 3 {
		items := ofTerms(9, 1, 2, 3)
		items[place].B = make([]byte, mostItem+1)
		p.joins(t, "the same terms, too many bytes", 3, 1, items, 0, false)
	}
	p.joins(t, "up to the base", 1, 0, []api.Item{{Term: -1}}, 0, false)
	p.joins(t, "up to the base", 1, 0, []api.Item{{Term: 1}, {Term: highest + 1}}, 0, false)
}

func TestJoinOfItemsAtTheirEdges(t *testing.T) {
	for _, it := range edgeOnes() {
		p := filled(t, 3, 1, ofTerms(5, 1, 2, 3))
		p.joins(t, "an item at its edge", 6, 3, []api.Item{it}, 7, true)
		p.joins(t, "the same again", 6, 3, []api.Item{it}, 0, true)
	}
	p := filled(t, 3, 1, ofTerms(5, 1, 2, 3))
	p.joins(t, "all at their edges", 4, 1, edgeOnes(), 5, true)
	p.whole(t, "all at their edges")
}

// As many items as there may be, and one more.
func TestJoinOfManyItems(t *testing.T) {
	for _, base := range []int{0, 2, highest - mostItems, highest - mostItems + 1, highest - 5, highest - 1, highest} {
		room := min(mostItems, highest-base)
		for _, have := range []int{0, 1, 5, room} {
			if have > room {
				continue
			}
			p := filled(t, base, 1, bulk(have, 2))
			what := "many items"
			c := p.copied(t)
			c.joins(t, what, base, 1, bulk(room+1, 2), 0, false)
			c.joins(t, what, base, 1, bulk(room+1, 3), 0, false)
			c.joins(t, what, base, 1, bulk(room+5000, 3), 0, false)
			if have > 0 {
				c.joins(t, what, base+have, 2, bulk(room-have+1, 3), 0, false)
				c.joins(t, what, base+have-1, c.termAt(t, base+have-1), bulk(room-have+2, 2), 0, false)
			}
			if room == 0 {
				continue
			}
			at := base + have + 1
			if have == room {
				at = 0
			}
			c.joins(t, what, base, 1, bulk(room, 2), at, true)
			c.joins(t, what, base, 1, bulk(room, 2), 0, true)
			c.joins(t, "all others", base, 1, bulk(room, 3), base+1, true)
			c.joins(t, "no more", base+room, 3, bulk(1, 3), 0, false)
			c.joins(t, "nothing", base+room, 3, nil, 0, true)
			c.joins(t, "fewer", base, 1, bulk(1, 4), base+1, true)
			p.is(t, "what was copied")
		}
	}
}

func (p pair) termAt(t *testing.T, i int) int {
	t.Helper()
	term, ok := p.l.Term(i)
	if !ok {
		t.Fatalf("there is no term at %d", i)
	}
	return term
}

// What is passed over takes no room: more items than a line has may be joined.
func TestJoinOfMoreItemsThanALineHas(t *testing.T) {
	const base = 5000
	p := filled(t, base, 1, bulk(3, 2))
	p.joins(t, "up to the base", 0, 0, bulk(base, 7), 0, true)
	p.joins(t, "the same behind the base", 0, 0, slices.Concat(bulk(base, 7), bulk(3, 2)), 0, true)
	p.joins(t, "one more than there may be", 0, 0, bulk(base+mostItems+1, 2), 0, false)
	p.joins(t, "one more than there may be, and others", 0, 0, bulk(base+mostItems+1, 3), 0, false)
	p.joins(t, "as many as there may be", 0, 0, bulk(base+mostItems, 2), base+4, true)
	p.joins(t, "as many as there may be, all others", 0, 0, bulk(base+mostItems, 3), base+1, true)
	p.joins(t, "again", 4999, 0, bulk(mostItems+1, 3), 0, true)
	// The one at the base is passed over, too.
	p.joins(t, "another one at the base", 4999, 9, append([]api.Item{{Term: 9}}, bulk(2, 3)...), 0, true)
	p.drop(t, base+mostItems)
	p.joins(t, "up to a later base", 0, 0, bulk(base+mostItems, 6), 0, true)
	p.joins(t, "one behind a later base", 0, 0, bulk(base+mostItems+1, 6), base+mostItems+1, true)
}

// What is handed in isn't kept: nor are lists read behind their length.
func TestWhatIsHandedInIsNotKept(t *testing.T) {
	p := fresh(t, 3, 1)
	b := []byte("abcdef")
	for n := range 6 {
		p.add(t, api.Item{Term: 1, B: b[:n]})
		copy(b, "------")
		p.is(t, "Add, written over")
		copy(b, "abcdef")
	}
	room := append(ofTerms(30, 1, 1, 4, 5), ofTerms(60, 6, 6, 6)...)
	p.joins(t, "with room behind", 5, 1, room[:4], 8, true)
	if room[4].Term != 6 || !sameItems(room[4:], ofTerms(60, 6, 6, 6)) {
		t.Error("what lies behind the list's length is written")
	}
	spoil(room)
	p.whole(t, "Join, written over")
	if string(b) != "abcdef" {
		t.Error("what was handed in has changed")
	}
}

// Items that a line has answered may be joined to it, and to its copies.
func TestJoinOfOwnItems(t *testing.T) {
	p := filled(t, 0, 0, ofTerms(2, 1, 2, 3, 4, 5, 6))
	c := p.copied(t)
	p.joins(t, "own items", 0, 0, p.l.From(1, 9), 0, true)
	p.joins(t, "own items, moved", 1, 1, p.l.From(1, 9), 2, true)
	c.joins(t, "own items of one with a later base", 2, 2, c.l.From(2, 3), 3, true)
	c.drop(t, 2)
	c.joins(t, "own items behind the base", 2, 2, c.l.From(3, 9), 0, true)
	p.whole(t, "own items")
	c.whole(t, "own items, a copy")
}

// dice tells numbers without order, always the same ones.
type dice uint64

func (d *dice) below(n int) int {
	*d = *d*6364136223846793005 + 1442695040888963407
	return int(uint64(*d)>>33) % n
}

// items are some, most of them right.
func (d *dice) items() []api.Item {
	var list []api.Item
	for range d.below(5) {
		list = append(list, api.Item{Term: 1 + d.below(3), B: row(d.below(99), d.below(4))})
	}
	if len(list) > 0 && d.below(12) == 0 {
		list[d.below(len(list))].Term = -1
	}
	return list
}

// step lets something happen to a line.
func (d *dice) step(t *testing.T, p pair) {
	t.Helper()
	i := p.v.base - 2 + d.below(p.v.last-p.v.base+5)
	switch d.below(6) {
	case 0:
		if items := d.items(); len(items) > 0 {
			p.add(t, items[0])
		}
	case 1:
		if d.below(3) == 0 {
			p.drop(t, i)
		}
	case 2:
		p.join(t, i, 1+d.below(3), d.items())
	default:
		term, _ := p.v.termAt(i)
		p.join(t, i, term, d.items())
	}
}

// Rows of calls of all kinds, on lines and their copies in turn.
func TestRowsOfCalls(t *testing.T) {
	for seed := range 200 {
		d := dice(seed)
		lines := []pair{fresh(t, []int{0, 1, 300, highest - 6}[seed%4], 1)}
		for range 60 {
			if len(lines) < 4 && d.below(10) == 0 {
				lines = append(lines, lines[d.below(len(lines))].copied(t))
			}
			d.step(t, lines[d.below(len(lines))])
			for _, p := range lines {
				p.is(t, "a row of calls")
			}
		}
		for _, p := range lines {
			p.whole(t, "behind a row of calls")
		}
	}
}
