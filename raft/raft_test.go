// The tests hold the package's exported calls alone against the document's words.
package raft_test

import (
	"bytes"
	"fmt"
	"math"
	"slices"
	"testing"

	"seisin/api"
	"seisin/letter"
	"seisin/raft"
)

// extremes are numbers at which arithmetic goes round.
var extremes = []int{math.MinInt, math.MinInt + 1, -1 << 41, -8, -1, 8, 1 << 41, math.MaxInt - 1, math.MaxInt}

// say is a text's bytes.
func say(s string) []byte { return []byte(s) }

// terms are items of these terms, each with bytes of its own.
func terms(list ...int) []api.Item {
	var items []api.Item
	for k, term := range list {
		items = append(items, api.Item{Term: term, B: fmt.Appendf(nil, "%d of %d", k, term)})
	}
	return items
}

// many are so many items of a term, with few bytes.
func many(n, term int) []api.Item {
	items := make([]api.Item, n)
	for i := range items {
		items[i] = api.Item{Term: term, B: []byte{byte(i), byte(i >> 8)}}
	}
	return items
}

// twin is a replica, and what it has to be.
type twin struct {
	r *raft.Raft
	p *paper
}

// fresh is a twin to which nothing has happened.
func fresh(me, n int) *twin { return &twin{raft.New(me, n), newPaper(me, n)} }

// loaded is a twin that begins with what lasted of a paper.
func loaded(t *testing.T, p *paper) *twin {
	t.Helper()
	r, ok := raft.Load(p.me, p.n, p.head(), nil)
	if !ok {
		t.Fatal("its head isn't loaded")
	}
	w := &twin{r, p.anew()}
	w.is(t, "loaded")
	return w
}

// with is a twin of some term, with a line of base 0 and of these items.
func with(t *testing.T, me, n, term int, items ...api.Item) *twin {
	t.Helper()
	p := newPaper(me, n)
	p.term, p.items = term, items
	return loaded(t, p)
}

// leading is with, of a twin that leads then, in the next term; its first item is
// there, and its letters and notes are gone.
func leading(t *testing.T, me, n, term int, items ...api.Item) *twin {
	t.Helper()
	w := with(t, me, n, term, items...)
	w.leads(t)
	w.takes(t)
	return w
}

// leads lets a twin stand, and all others vote for it.
func (w *twin) leads(t *testing.T) {
	t.Helper()
	w.ticks(t, 20+2*w.p.me)
	for k := range w.p.n {
		w.hears(t, k, api.Letter{Kind: api.LSay, Term: w.p.term, Yes: true})
	}
	if w.r.Role() != api.Leader || w.r.Leader() != w.p.me {
		t.Fatal("it doesn't lead")
	}
}

// copied is a twin of copies.
func (w *twin) copied() *twin { return &twin{w.r.Copy(), w.p.copied()} }

// is holds all that is seen of a replica against the words; the looks that take
// something with them are at copies.
func (w *twin) is(t *testing.T, what string) {
	t.Helper()
	r, p := w.r, w.p
	got := []int{r.Role(), r.Term(), r.Leader(), r.Commit()}
	if want := []int{p.role, p.term, p.leader, p.commit}; !slices.Equal(got, want) {
		t.Fatalf("%s: role, term, leader, commit: %d, not %d", what, got, want)
	}
	if b := r.Head(); !bytes.Equal(b, p.head()) {
		t.Fatalf("%s: the head\n%x, not\n%x", what, b, p.head())
	}
	if b := r.Line().Put(); !bytes.Equal(b, p.line()) {
		t.Fatalf("%s: the line\n%x, not\n%x", what, b, p.line())
	}
	if b := r.State(); !bytes.Equal(b, p.state) {
		t.Fatalf("%s: the state %x, not %x", what, b, p.state)
	}
	w.copied().takes(t)
}

// takes asks for all that waits: letters, items, notes, and a jump.
func (w *twin) takes(t *testing.T) {
	t.Helper()
	w.outs(t)
	for w.next(t) {
	}
	w.copied().jumps(t)
	w.news(t)
	w.jumps(t)
}

func (w *twin) tick(t *testing.T) {
	t.Helper()
	w.r.Tick()
	w.p.tick()
	w.is(t, "a tick")
}

func (w *twin) ticks(t *testing.T, n int) {
	t.Helper()
	for range n {
		w.tick(t)
	}
}

// hears is Handle; what was handed in must stay, and is written over then.
func (w *twin) hears(t *testing.T, from int, l api.Letter) {
	t.Helper()
	in, was := own(l), own(l)
	w.r.Handle(from, in)
	if !letter.Same(in, was) {
		t.Fatal("the letter has changed")
	}
	spoil(in)
	w.p.handle(from, l)
	w.is(t, fmt.Sprintf("letter %d of %d, of term %d, at %d of %d, to %d, %v, with %d items and %d bytes",
		l.Kind, from, l.Term, l.At, l.AtTerm, l.To, l.Yes, len(l.Items), len(l.B)))
}

func (w *twin) proposes(t *testing.T, b []byte) (int, api.Errno) {
	t.Helper()
	in := bytes.Clone(b)
	at, x := w.r.Propose(in)
	if !bytes.Equal(in, b) {
		t.Fatal("what was proposed has changed")
	}
	clear(in)
	if want, wantX := w.p.propose(b); at != want || x != wantX {
		t.Fatalf("to propose %d bytes answers %d, %v, not %d, %v", len(b), at, x, want, wantX)
	}
	w.is(t, "proposed")
	return at, x
}

func (w *twin) next(t *testing.T) bool {
	t.Helper()
	i, it, ok := w.r.Next()
	want, wantIt, wantOk := w.p.nextItem()
	if i != want || !sameItem(it, wantIt) || ok != wantOk {
		t.Fatalf("next is %d, %v, %v, not %d, %v, %v", i, it, ok, want, wantIt, wantOk)
	}
	clear(it.B)
	return ok
}

func (w *twin) compacts(t *testing.T, state []byte) bool {
	t.Helper()
	in := bytes.Clone(state)
	ok := w.r.Compact(in)
	if !bytes.Equal(in, state) {
		t.Fatal("a state has changed")
	}
	clear(in)
	if want := w.p.compact(state); ok != want {
		t.Fatalf("to compact with %d bytes answers %v", len(state), ok)
	}
	w.is(t, "compacted")
	return ok
}

func (w *twin) jumps(t *testing.T) bool {
	t.Helper()
	b, ok := w.r.Jump()
	want, wantOk := w.p.jumpState()
	if !bytes.Equal(b, want) || ok != wantOk {
		t.Fatalf("a jump: %x, %v, not %x, %v", b, ok, want, wantOk)
	}
	clear(b)
	return ok
}

func (w *twin) news(t *testing.T) [][]byte {
	t.Helper()
	got, want := w.r.News(), w.p.news
	if !slices.EqualFunc(got, want, bytes.Equal) {
		t.Fatalf("notes %x, not %x", got, want)
	}
	w.p.news = nil
	for _, b := range got {
		clear(b)
	}
	return want
}

func (w *twin) outs(t *testing.T) []api.Post {
	t.Helper()
	got, want := w.r.Out(), w.p.out
	if !slices.EqualFunc(got, want, samePost) {
		t.Fatalf("letters\n%v, not\n%v", got, want)
	}
	for _, p := range got {
		if !letter.Right(p.L) {
			t.Fatalf("a letter isn't right: %v", p.L)
		}
		spoil(p.L)
	}
	w.p.out = nil
	return want
}

func samePost(a, b api.Post) bool { return a.To == b.To && letter.Same(a.L, b.L) }

func sameItem(a, b api.Item) bool { return a.Term == b.Term && bytes.Equal(a.B, b.B) }

// own is a letter with bytes of its own.
func own(l api.Letter) api.Letter {
	l.B = bytes.Clone(l.B)
	l.Items = slices.Clone(l.Items)
	for i := range l.Items {
		l.Items[i].B = bytes.Clone(l.Items[i].B)
	}
	return l
}

// spoil writes over all memory that a letter has.
func spoil(l api.Letter) {
	clear(l.B)
	for i := range l.Items {
		clear(l.Items[i].B)
		l.Items[i] = api.Item{Term: -7}
	}
}

// P18.1

func TestNew(t *testing.T) {
	for me := -3; me < 10; me++ {
		for n := -3; n < 10; n++ {
			r, is := raft.New(me, n), n >= 1 && n <= 7 && me >= 0 && me <= n-1
			if (r != nil) != is {
				t.Fatalf("New(%d, %d)", me, n)
			}
			if is {
				fresh(me, n).is(t, "new")
			}
		}
	}
	for _, x := range extremes {
		for _, y := range append(extremes, 0, 1, 3, 7) {
			if raft.New(x, y) != nil || raft.New(y, x) != nil {
				t.Errorf("New(%d, %d), or the other way round", x, y)
			}
		}
	}
}

func TestNewHasNothing(t *testing.T) {
	r := raft.New(2, 5)
	index, term := r.Line().Last()
	base, baseTerm := r.Line().Base()
	if r.Role() != api.Follower || r.Term() != 0 || r.Leader() != api.Nobody || r.Commit() != 0 ||
		index != 0 || term != 0 || base != 0 || baseTerm != 0 || len(r.State()) != 0 {
		t.Error("a new one has something")
	}
	if string(r.Head()) != "\x00\x00\x01\x03\x00\x00\x00\x00" {
		t.Errorf("its head is %x", r.Head())
	}
	if _, ok := r.Jump(); ok || len(r.News()) != 0 || len(r.Out()) != 0 {
		t.Error("a new one has something to tell")
	}
	if i, it, ok := r.Next(); i != 0 || it.Term != 0 || len(it.B) != 0 || ok {
		t.Error("a new one has an item")
	}
}

// What waits in a replica and in its copy is each one's own.
func TestCopiesShareNothing(t *testing.T) {
	w := leading(t, 0, 3, 4, terms(1, 2)...)
	w.proposes(t, say("abc"))
	w.proposes(t, say("def"))
	w.hears(t, 1, api.Letter{Kind: api.LGot, Term: 5, Yes: true, At: 5})
	w.hears(t, 2, api.Letter{Kind: api.LGot, Term: 5, Yes: true, At: 1})
	c := w.copied()
	c.takes(t)
	w.is(t, "behind its copy")
	d := w.copied()
	w.takes(t)
	d.is(t, "behind what it was copied from")
	w.compacts(t, say("state"))
	w.proposes(t, say("ghi"))
	w.ticks(t, 4)
	e := w.copied()
	for _, b := range [][]byte{e.r.Head(), e.r.State(), e.r.Line().Put(), e.r.Line().From(6, 9)[0].B} {
		clear(b)
	}
	e.r.Line().Drop(6)
	spoil(e.r.Out()[0].L)
	w.is(t, "behind what was written over")
	w.takes(t)
}

func TestCopiesGoTheirOwnWay(t *testing.T) {
	ways := []func(w *twin){
		func(w *twin) { w.ticks(t, 50) },
		func(w *twin) { w.proposes(t, say("abc")) },
		func(w *twin) { w.hears(t, 1, api.Letter{Kind: api.LAsk, Term: 9, At: 9, AtTerm: 9}) },
		func(w *twin) { w.hears(t, 1, api.Letter{Kind: api.LGive, Term: 9, At: 9, AtTerm: 9, B: say("z")}) },
		func(w *twin) { w.hears(t, 1, api.Letter{Kind: api.LSay, Term: 6, Yes: true}) },
		func(w *twin) { w.hears(t, 3, api.Letter{Kind: api.LGot, Term: 5, Yes: true, At: 2}) },
		func(w *twin) {
			w.hears(t, 1, api.Letter{Kind: api.LSend, Term: 5, At: 1, AtTerm: 1, To: 3, Items: terms(5, 5)})
		},
		func(w *twin) { w.takes(t); w.compacts(t, say("y")) },
		func(w *twin) { w.takes(t) },
	}
	begins := []func() *twin{
		func() *twin { return with(t, 0, 5, 4, terms(1, 2)...) },
		func() *twin { w := with(t, 0, 5, 4, terms(1, 2)...); w.ticks(t, 25); return w },
		func() *twin { return leading(t, 0, 5, 4, terms(1, 2)...) },
	}
	for _, begin := range begins {
		for _, one := range ways {
			for _, other := range ways {
				w := begin()
				c := w.copied()
				one(w)
				c.is(t, "the copy")
				other(c)
				w.is(t, "what was copied")
				one(c)
				other(w)
			}
		}
	}
}

// What is answered is new memory, each time.
func TestAnswersShareNothing(t *testing.T) {
	w := leading(t, 0, 3, 4, terms(1, 2)...)
	w.hears(t, 1, api.Letter{Kind: api.LGot, Term: 5, Yes: true, At: 3})
	w.takes(t)
	w.compacts(t, say("state"))
	w.proposes(t, say("abc"))
	for range 2 {
		for _, b := range [][]byte{w.r.Head(), w.r.State(), w.r.Line().Put()} {
			clear(b)
		}
		l := w.r.Line()
		l.Add(api.Item{Term: 5})
		l.Join(3, 5, terms(6, 7))
		l.Drop(4)
		w.is(t, "behind what was written over")
	}
	w.ticks(t, 4)
	out := w.r.Copy().Out()
	for i, p := range out {
		spoil(p.L)
		for k, q := range out {
			if i < k && !samePost(q, w.p.out[k]) {
				t.Errorf("letter %d is spoilt by %d", k, i)
			}
		}
	}
	w.is(t, "behind letters that were written over")
}
