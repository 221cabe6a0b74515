// The tests hold the package's exported calls alone against the document's words.
package line_test

import (
	"bytes"
	"math"
	"math/big"
	"slices"
	"testing"

	"seisin/api"
	"seisin/line"
)

const (
	// highest is the greatest term, and the greatest index.
	highest = 1 << 40
	// mostItems and mostItem are how many items a line, and how many bytes an
	// item, has at most.
	mostItems = 4096
	mostItem  = 8192
)

// log is a line by the document's words: each item stands by its index.
type log struct {
	base, term, last int
	items            map[int]api.Item
}

// newBy is New, by the document's words.
func newBy(base, term int) (*log, bool) {
	if base <= -1 || base >= highest+1 || term <= -1 || term >= highest+1 {
		return nil, false
	}
	return &log{base: base, term: term, last: base, items: map[int]api.Item{}}, true
}

func (v *log) copied() *log {
	w := &log{base: v.base, term: v.term, last: v.last, items: map[int]api.Item{}}
	for i, it := range v.items {
		w.items[i] = ownItem(it)
	}
	return w
}

func (v *log) termAt(i int) (int, bool) {
	if it, ok := v.items[i]; ok || i != v.base {
		return it.Term, ok
	}
	return v.term, true
}

func (v *log) from(i, most int) []api.Item {
	var list []api.Item
	for it, ok := v.items[i]; ok && len(list) < most; it, ok = v.items[i] {
		list = append(list, it)
		i++
	}
	return list
}

// form is the form by the document's words.
func (v *log) form() []byte {
	b := slices.Concat(numOf(v.base), numOf(v.term), numOf(v.last-v.base))
	for i := v.base + 1; i <= v.last; i++ {
		b = append(b, numOf(v.items[i].Term)...)
		b = append(b, textOf(v.items[i].B)...)
	}
	return b
}

// numOf is a number's form, by numbers of any size.
func numOf(n int) []byte {
	b := new(big.Int).SetUint64(uint64(n)).Bytes()
	return append([]byte{byte(len(b))}, b...)
}

func textOf(b []byte) []byte { return append(numOf(len(b)), b...) }

func ownItem(it api.Item) api.Item { return api.Item{Term: it.Term, B: []byte(string(it.B))} }

func ownItems(list []api.Item) []api.Item {
	var own []api.Item
	for _, it := range list {
		own = append(own, ownItem(it))
	}
	return own
}

func sameItem(a, b api.Item) bool { return a.Term == b.Term && string(a.B) == string(b.B) }

func sameItems(a, b []api.Item) bool { return slices.EqualFunc(a, b, sameItem) }

// rightBy tells whether an item is right, by the document's words.
func rightBy(it api.Item) bool {
	return it.Term > -1 && it.Term < highest+1 && len(it.B) < mostItem+1
}

// row is so many bytes without order, always the same ones.
func row(seed, many int) []byte {
	b, x := make([]byte, many), uint64(seed)*2654435761+uint64(many)
	for i := range b {
		x = x*6364136223846793005 + 1442695040888963407
		b[i] = byte(x >> 33)
	}
	return b
}

// ofTerms are items with these terms, each with bytes of its own.
func ofTerms(seed int, terms ...int) []api.Item {
	var list []api.Item
	for k, term := range terms {
		list = append(list, api.Item{Term: term, B: row(seed+k, 1+(seed+k)%5)})
	}
	return list
}

// bulk are so many items of a term, with few bytes.
func bulk(many, term int) []api.Item {
	list := make([]api.Item, many)
	for i := range list {
		list[i] = api.Item{Term: term, B: []byte{byte(i), byte(i >> 8)}[:i%3]}
	}
	return list
}

// wide are numbers of all sizes.
func wide() []int {
	list := []int{math.MinInt, math.MinInt + 1, math.MinInt + highest, math.MinInt + highest - 1, math.MinInt + highest + 1,
		math.MaxInt, math.MaxInt - 1, math.MaxInt - highest, math.MaxInt - highest + 1}
	for _, edge := range []int{0, 256, 65536, 1 << 31, 1 << 32, highest, 1 << 48, 1 << 62} {
		for by := -2; by <= 2; by++ {
			list = append(list, edge+by, -edge+by)
		}
	}
	return list
}

// pair is a line, and what it has to be.
type pair struct {
	l *line.Line
	v *log
}

// fresh is a pair without items.
func fresh(t *testing.T, base, term int) pair {
	t.Helper()
	v, ok := newBy(base, term)
	l := line.New(base, term)
	if !ok || l == nil {
		t.Fatalf("there is no line of base %d and term %d", base, term)
	}
	return pair{l, v}
}

// filled is a pair with these items, which have to be right.
func filled(t *testing.T, base, term int, items []api.Item) pair {
	t.Helper()
	p := fresh(t, base, term)
	for _, it := range items {
		if p.add(t, it) == 0 {
			t.Fatalf("base %d: no item comes behind %d", base, p.v.last)
		}
	}
	return p
}

func (p pair) copied(t *testing.T) pair {
	t.Helper()
	c := p.l.Copy()
	if c == nil || c == p.l {
		t.Fatal("there is no copy")
	}
	return pair{c, p.v.copied()}
}

// add holds Add against the document's words.
func (p pair) add(t *testing.T, it api.Item) int {
	t.Helper()
	want := 0
	if rightBy(it) && p.v.last-p.v.base < mostItems && p.v.last < highest {
		p.v.last++
		want = p.v.last
		p.v.items[want] = ownItem(it)
	}
	if got := p.l.Add(it); got != want {
		t.Fatalf("base %d, last %d: Add answers %d, not %d", p.v.base, p.v.last, got, want)
	}
	return want
}

// drop holds Drop against the document's words.
func (p pair) drop(t *testing.T, i int) bool {
	t.Helper()
	was := *p.v
	term, want := p.v.termAt(i)
	for gone := p.v.base + 1; want && gone <= i; gone++ {
		delete(p.v.items, gone)
	}
	if want {
		p.v.base, p.v.term = i, term
	}
	if got := p.l.Drop(i); got != want {
		t.Fatalf("base %d, last %d: Drop of %d: %v", was.base, was.last, i, got)
	}
	return want
}

// is must find a line as it has to be: its form tells all.
func (p pair) is(t *testing.T, what string) {
	t.Helper()
	if base, term := p.l.Base(); base != p.v.base || term != p.v.term {
		t.Fatalf("%s: base %d, %d, not %d, %d", what, base, term, p.v.base, p.v.term)
	}
	lastTerm, _ := p.v.termAt(p.v.last)
	if last, term := p.l.Last(); last != p.v.last || term != lastTerm {
		t.Fatalf("%s: last %d, %d, not %d, %d", what, last, term, p.v.last, lastTerm)
	}
	if got, want := p.l.Put(), p.v.form(); !bytes.Equal(got, want) {
		t.Fatalf("%s: % .200x, not % .200x", what, got, want)
	}
}

// tells must find what a line tells of an index.
func (p pair) tells(t *testing.T, what string, i int) {
	t.Helper()
	wantTerm, want := p.v.termAt(i)
	if term, ok := p.l.Term(i); term != wantTerm || ok != want {
		t.Fatalf("%s: term %d: %d, %v, not %d, %v", what, i, term, ok, wantTerm, want)
	}
	wantItem, want := p.v.items[i]
	if it, ok := p.l.Item(i); !sameItem(it, wantItem) || ok != want {
		t.Fatalf("%s: item %d: of term %d, % .30x, %v, not of %d, % .30x, %v", what, i, it.Term, it.B, ok, wantItem.Term, wantItem.B, want)
	}
}

// gives must find the items from an index on.
func (p pair) gives(t *testing.T, what string, i, most int) {
	t.Helper()
	if got, want := p.l.From(i, most), p.v.from(i, most); !sameItems(got, want) {
		t.Fatalf("%s: from %d at most %d: %d items, not %d, or others", what, i, most, len(got), len(want))
	}
}

// whole must find all that a line tells.
func (p pair) whole(t *testing.T, what string) {
	t.Helper()
	p.is(t, what)
	mosts := []int{-1, 0, 1, 2, 3, p.v.last - p.v.base, mostItems, math.MaxInt, math.MinInt}
	for i := p.v.base - 3; i <= p.v.last+3; i++ {
		p.tells(t, what, i)
		for _, most := range mosts {
			p.gives(t, what, i, most)
		}
	}
	for _, i := range wide() {
		p.tells(t, what, i)
		p.gives(t, what, i, 2)
		p.gives(t, what, i, math.MaxInt)
	}
	p.is(t, what)
}

// few are lines of many kinds, without many items.
func few(t *testing.T) []pair {
	t.Helper()
	var list []pair
	for _, base := range []int{0, 1, 4, 255, 256, 65535, 1<<32 - 2, highest - 5, highest} {
		for _, term := range []int{0, 1, 300, highest} {
			for _, many := range []int{0, 1, 2, 5} {
				if base+many <= highest {
					list = append(list, filled(t, base, term, ofTerms(base%100, 1, 1, 0, highest, 70000)[:many]))
				}
			}
		}
	}
	return list
}

// P17.1

func TestNew(t *testing.T) {
	for _, base := range wide() {
		for _, term := range wide() {
			v, want := newBy(base, term)
			l := line.New(base, term)
			if (l != nil) != want {
				t.Fatalf("base %d, term %d: a line: %v", base, term, l != nil)
			}
			if want {
				pair{l, v}.is(t, "a new line")
			}
		}
	}
	for _, none := range [][2]int{{-1, 0}, {0, -1}, {-1, -1}, {highest + 1, 0}, {0, highest + 1}, {-1, highest + 1}, {highest + 1, -1}} {
		if line.New(none[0], none[1]) != nil {
			t.Errorf("base %d, term %d: a line", none[0], none[1])
		}
	}
	if api.MaxIndex != highest || api.MaxTerm != highest || api.MaxLine != mostItems || api.MaxItem != mostItem {
		t.Error("other limits")
	}
}

func TestLinesWithoutItems(t *testing.T) {
	for _, base := range []int{0, 1, 7, highest - 1, highest} {
		for _, term := range []int{0, 1, 9, highest} {
			l := line.New(base, term)
			if index, at := l.Base(); index != base || at != term {
				t.Errorf("base %d, %d, not %d, %d", index, at, base, term)
			}
			if index, at := l.Last(); index != base || at != term {
				t.Errorf("last %d, %d, not %d, %d", index, at, base, term)
			}
			if at, ok := l.Term(base); !ok || at != term {
				t.Errorf("the base's term: %d, %v, not %d", at, ok, term)
			}
			if it, ok := l.Item(base); ok || it.Term != 0 || len(it.B) > 0 || len(l.From(base, 9)) > 0 {
				t.Errorf("base %d: there is an item", base)
			}
			fresh(t, base, term).whole(t, "without items")
		}
	}
}

func TestWhatALineTellsByHand(t *testing.T) {
	l := line.New(4, 1)
	for _, term := range []int{1, 3, 2} {
		l.Add(api.Item{Term: term, B: []byte{'a' + byte(term)}})
	}
	if i, term := l.Base(); i != 4 || term != 1 {
		t.Error("base", i, term)
	}
	if i, term := l.Last(); i != 7 || term != 2 {
		t.Error("last", i, term)
	}
	for i, want := range []int{-1, -1, -1, -1, 1, 1, 3, 2, -1} {
		if term, ok := l.Term(i); ok != (want >= 0) || ok && term != want || !ok && term != 0 {
			t.Error("term", i, term, ok)
		}
		it, ok := l.Item(i)
		if ok != (i >= 5 && i <= 7) || ok && (it.Term != want || string(it.B) != string('a'+rune(want))) {
			t.Error("item", i, it, ok)
		}
		if !ok && (it.Term != 0 || len(it.B) > 0) {
			t.Error("beside false", i, it)
		}
	}
	for _, c := range []struct{ i, most, from, many int }{
		{5, 1, 5, 1}, {5, 2, 5, 2}, {5, 3, 5, 3}, {5, 4, 5, 3}, {6, 1, 6, 1}, {6, 9, 6, 2}, {7, 1, 7, 1}, {7, 2, 7, 1},
		{4, 9, 0, 0}, {8, 9, 0, 0}, {0, 9, 0, 0}, {-1, 9, 0, 0}, {5, 0, 0, 0}, {5, -1, 0, 0}, {6, math.MinInt, 0, 0}, {6, math.MaxInt, 6, 2},
	} {
		list := l.From(c.i, c.most)
		if len(list) != c.many {
			t.Error("from", c.i, c.most, list)
			continue
		}
		for k, it := range list {
			if want, ok := l.Item(c.from + k); !ok || !sameItem(it, want) {
				t.Error("from", c.i, c.most, list)
			}
		}
	}
}

func TestWhatLinesTell(t *testing.T) {
	for _, p := range few(t) {
		p.whole(t, "a line")
	}
}

func TestWhatALongLineTells(t *testing.T) {
	for _, base := range []int{0, 9, highest - mostItems} {
		p := filled(t, base, 1, bulk(mostItems, 3))
		for i := base - 2; i <= p.v.last+2; i++ {
			p.tells(t, "a long line", i)
			p.gives(t, "a long line", i, 2)
		}
		for _, most := range []int{1, 16, mostItems - 1, mostItems, mostItems + 1, math.MaxInt} {
			for _, i := range []int{base, base + 1, base + 2, base + mostItems - 16, base + mostItems, base + mostItems + 1} {
				p.gives(t, "a long line", i, most)
			}
		}
		p.is(t, "a long line")
	}
}

func TestACopyHasTheSame(t *testing.T) {
	for _, p := range few(t) {
		c := p.copied(t)
		c.whole(t, "a copy")
		c.copied(t).whole(t, "a copy's copy")
		p.is(t, "what was copied")
	}
}

// changes each change a line, as the calls that there are can.
func changes(t *testing.T) []func(p pair) {
	list := []func(p pair){
		func(p pair) { p.add(t, api.Item{Term: 8, B: []byte("behind")}) },
		func(p pair) { p.drop(t, p.v.last) },
		func(p pair) { p.drop(t, p.v.base+1); p.add(t, api.Item{Term: 9}); p.add(t, api.Item{Term: 10}) },
	}
	for back := range 6 {
		list = append(list, func(p pair) {
			prev := max(p.v.last-back, p.v.base)
			term, _ := p.v.termAt(prev)
			p.join(t, prev, term, []api.Item{{Term: 90, B: []byte("joined")}, {Term: 91}, {Term: 92}})
		})
	}
	return list
}

func TestACopyGoesItsOwnWay(t *testing.T) {
	for k := range changes(t) {
		for _, p := range few(t) {
			if p.v.last+3 > highest {
				continue
			}
			c := p.copied(t)
			changes(t)[k](c)
			p.is(t, "what was copied, behind a change of the copy")
			c.is(t, "a changed copy")
			late := p.copied(t)
			changes(t)[k](p)
			late.is(t, "a copy, behind a change of what was copied")
			c.is(t, "a changed copy, behind a change of what was copied")
			p.is(t, "what was copied, changed")
			// Both grow behind one place, each by its own item.
			p.add(t, api.Item{Term: 20, B: []byte("one")})
			c.add(t, api.Item{Term: 21, B: []byte("other")})
			late.add(t, api.Item{Term: 22, B: []byte("third")})
			p.whole(t, "what was copied")
			c.whole(t, "a copy")
			late.whole(t, "a late copy")
		}
	}
}

// spoil writes over all of some items that were answered, and behind them.
func spoil(list []api.Item) {
	for _, it := range list[:cap(list)] {
		for k := range it.B[:cap(it.B)] {
			it.B[:cap(it.B)][k] = 0xee
		}
	}
	for i := range list[:cap(list)] {
		list[:cap(list)][i] = api.Item{Term: 77, B: []byte("spoilt")}
	}
}

// What is answered may be written over, and the line doesn't change by it, nor
// do its copies.
func TestWhatALineTellsIsNew(t *testing.T) {
	for _, p := range few(t) {
		c := p.copied(t)
		for i := p.v.base; i <= p.v.last; i++ {
			it, _ := p.l.Item(i)
			spoil([]api.Item{it})
			spoil(p.l.From(i, 1))
			spoil(p.l.From(i, 9))
			spoil(c.l.From(i, 2))
		}
		spoil([]api.Item{{B: p.l.Put()}})
		p.whole(t, "spoilt answers")
		c.whole(t, "spoilt answers, a copy")
	}
}

// No two lists of one answer share memory.
func TestListsOfOneAnswerShareNoMemory(t *testing.T) {
	b := []byte("the same bytes")
	p := filled(t, 3, 1, []api.Item{{Term: 1, B: b}, {Term: 1, B: b[:4]}, {Term: 2, B: b}, {Term: 3, B: b[4:]}})
	list, twin := p.l.From(4, 9), p.l.From(4, 9)
	for i := range list {
		spoil(list[i : i+1 : i+1])
		if !sameItems(list[i+1:], p.v.from(5+i, 9)) {
			t.Errorf("the item at %d shares memory with one behind it", i)
		}
	}
	if !sameItems(twin, p.v.from(4, 9)) || string(b) != "the same bytes" {
		t.Error("two answers share memory, or an answer and what was handed in")
	}
	p.whole(t, "spoilt lists")
}

func TestTheSameCallHasTheSameAnswer(t *testing.T) {
	p := filled(t, 2, 1, ofTerms(5, 1, 2, 2, 3))
	for range 3 {
		p.whole(t, "again")
		p.join(t, 9, 9, ofTerms(1, 4))
		p.join(t, 4, 2, ofTerms(1, 2))
		p.add(t, api.Item{Term: -1})
		p.drop(t, 7)
	}
}
