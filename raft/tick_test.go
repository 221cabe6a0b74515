package raft_test

import (
	"slices"
	"testing"

	"seisin/api"
	"seisin/raft"
)

// stands must find that a replica stands at the n-th tick from now on, not ahead
// of it.
func stands(t *testing.T, what string, w *twin, n int) {
	t.Helper()
	term := w.r.Term()
	w.ticks(t, n-1)
	if w.r.Term() != term {
		t.Fatalf("%s: it stands early", what)
	}
	w.ticks(t, 1)
	if w.r.Term() != term+1 || w.r.Leader() == w.p.me != (w.r.Role() == api.Leader) || w.r.Role() == api.Follower {
		t.Fatalf("%s: it doesn't stand", what)
	}
}

// toAll must find that just this letter waits to go out to each other replica.
func toAll(t *testing.T, w *twin, l api.Letter) {
	t.Helper()
	var want []api.Post
	for to := range w.p.n {
		if to != w.p.me {
			want = append(want, api.Post{To: to, L: l})
		}
	}
	if out := w.outs(t); !slices.EqualFunc(out, want, samePost) {
		t.Errorf("%v goes out, not %v", out, want)
	}
}

// beats must find that a leader sends to all at the n-th tick from now on, not
// ahead of it.
func beats(t *testing.T, what string, w *twin, n int) {
	t.Helper()
	w.outs(t)
	w.ticks(t, n-1)
	if len(w.outs(t)) != 0 {
		t.Fatalf("%s: it sends early", what)
	}
	w.ticks(t, 1)
	if len(w.outs(t)) != w.p.n-1 {
		t.Fatalf("%s: it doesn't send", what)
	}
}

// P18.2

func TestStanding(t *testing.T) {
	for n := 1; n < 8; n++ {
		for me := range n {
			w := fresh(me, n)
			stands(t, "a new one", w, 20+2*me)
			if n == 1 {
				continue
			}
			if w.r.Role() != api.Candidate || w.r.Leader() != api.Nobody {
				t.Error("it is no candidate, or somebody leads")
			}
			toAll(t, w, api.Letter{Kind: api.LAsk, Term: 1})
			stands(t, "a candidate", w, 20+2*me)
			stands(t, "a candidate of term 2", w, 20+2*me)
		}
	}
}

func TestWhatIsAskedFor(t *testing.T) {
	p := newPaper(2, 4)
	p.term, p.base, p.baseTerm, p.votedFor = 8, 5, 4, 3
	for _, items := range [][]api.Item{nil, terms(6), terms(6, 8, 8)} {
		p.items = items
		w := loaded(t, p)
		w.ticks(t, 24)
		term := 4
		if len(items) > 0 {
			term = items[len(items)-1].Term
		}
		toAll(t, w, api.Letter{Kind: api.LAsk, Term: 9, At: 5 + len(items), AtTerm: term})
	}
}

// A group of one leads as soon as it stands, and agrees by itself.
func TestAGroupOfOne(t *testing.T) {
	r := raft.New(0, 1)
	for range 20 {
		if r.Role() != api.Follower {
			t.Fatal("it leads early")
		}
		r.Tick()
	}
	if r.Role() != api.Leader || r.Leader() != 0 || r.Term() != 1 || r.Commit() != 1 || len(r.Out()) != 0 {
		t.Fatal("it doesn't lead")
	}
	if i, it, ok := r.Next(); i != 1 || it.Term != 1 || len(it.B) != 0 || !ok {
		t.Error("its first item isn't agreed")
	}
	if at, x := r.Propose(say("a")); at != 2 || x != api.OK || r.Commit() != 2 {
		t.Error("what is proposed isn't agreed")
	}
	w := fresh(0, 1)
	w.ticks(t, 60)
	w.proposes(t, say("b"))
	w = with(t, 0, 1, 7, terms(1, 7)...)
	w.ticks(t, 20)
	if w.r.Commit() != 3 {
		t.Error("what lasted isn't agreed")
	}
}

// What a letter does to the count: it begins anew, or goes on.
func TestCounting(t *testing.T) {
	ask := func(term, at, atTerm int) api.Letter {
		return api.Letter{Kind: api.LAsk, Term: term, At: at, AtTerm: atTerm}
	}
	for _, c := range []struct {
		what string
		from int
		l    api.Letter
		anew bool
	}{
		{"a vote", 0, ask(4, 2, 2), true},
		{"a vote in a greater term", 0, ask(6, 2, 2), true},
		{"a vote that isn't given", 0, ask(4, 1, 2), false},
		{"a vote that isn't given in a greater term", 0, ask(6, 9, 1), false},
		{"a vote in a lesser term", 0, ask(3, 9, 9), false},
		{"items", 2, api.Letter{Kind: api.LSend, Term: 4, At: 2, AtTerm: 2, Items: terms(4)}, true},
		{"no items", 2, api.Letter{Kind: api.LSend, Term: 4, At: 2, AtTerm: 2}, true},
		{"items of a greater term", 2, api.Letter{Kind: api.LSend, Term: 5, At: 2, AtTerm: 2, Items: terms(4)}, true},
		{"items that can't be joined", 2, api.Letter{Kind: api.LSend, Term: 4, At: 3, AtTerm: 2}, true},
		{"items in place of what is agreed", 2, api.Letter{Kind: api.LSend, Term: 4, Items: terms(3)}, true},
		{"items of a lesser term", 2, api.Letter{Kind: api.LSend, Term: 3, At: 2, AtTerm: 2}, false},
		{"a state", 2, api.Letter{Kind: api.LGive, Term: 4, At: 9, AtTerm: 2}, true},
		{"a state that is known", 2, api.Letter{Kind: api.LGive, Term: 4, At: 1, AtTerm: 1}, true},
		{"a state of a lesser term", 2, api.Letter{Kind: api.LGive, Term: 3, At: 9, AtTerm: 2}, false},
		{"a vote that comes", 2, api.Letter{Kind: api.LSay, Term: 4, Yes: true}, false},
		{"no vote", 2, api.Letter{Kind: api.LSay, Term: 5}, false},
		{"an answer", 2, api.Letter{Kind: api.LGot, Term: 4, Yes: true, At: 2}, false},
		{"an answer of a greater term", 2, api.Letter{Kind: api.LGot, Term: 5}, false},
		{"a letter of itself", 1, api.Letter{Kind: api.LSend, Term: 4, At: 2, AtTerm: 2}, false},
		{"a letter of a stranger", 3, api.Letter{Kind: api.LSend, Term: 4, At: 2, AtTerm: 2}, false},
		{"a letter that isn't right", 2, api.Letter{Kind: api.LSend, Term: 4, At: 2, AtTerm: 2, Yes: true}, false},
	} {
		w := with(t, 1, 3, 4, terms(1, 2)...)
		w.hears(t, 0, api.Letter{Kind: api.LSend, Term: 4, At: 1, AtTerm: 1, To: 1})
		w.ticks(t, 15)
		w.hears(t, c.from, c.l)
		if c.anew {
			stands(t, c.what, w, 22)
		} else {
			stands(t, c.what, w, 7)
		}
	}
}

// A candidate that hears of a greater term goes on counting, and so does a leader.
func TestCountingGoesOn(t *testing.T) {
	w := with(t, 1, 3, 4, terms(1, 2)...)
	w.ticks(t, 22+9)
	w.hears(t, 2, api.Letter{Kind: api.LSay, Term: 6})
	stands(t, "who was a candidate", w, 13)
	w = with(t, 1, 3, 4, terms(1, 2)...)
	w.ticks(t, 22+9)
	w.hears(t, 2, api.Letter{Kind: api.LSend, Term: 5, At: 2, AtTerm: 2})
	stands(t, "who was a candidate, and follows", w, 22)
	for n := range 4 {
		w = leading(t, 1, 3, 4, terms(1, 2)...)
		w.ticks(t, 8+n)
		w.hears(t, 2, api.Letter{Kind: api.LGot, Term: 6})
		stands(t, "who led", w, 22-n)
		w = leading(t, 1, 3, 4, terms(1, 2)...)
		w.ticks(t, 8+n)
		w.hears(t, 2, api.Letter{Kind: api.LSend, Term: 6, At: 2, AtTerm: 2})
		stands(t, "who led, and follows", w, 22)
	}
}

func TestBeats(t *testing.T) {
	for n := range 20 {
		w := with(t, 1, 3, 4, terms(1, 2)...)
		w.ticks(t, 22+n)
		w.hears(t, 2, api.Letter{Kind: api.LSay, Term: 5, Yes: true})
		beats(t, "since it led", w, 4)
		beats(t, "once more", w, 4)
		// What it sends in between isn't by a tick.
		w.ticks(t, 3)
		w.proposes(t, say("a"))
		beats(t, "behind what was proposed", w, 1)
		w.ticks(t, 2)
		w.hears(t, 0, api.Letter{Kind: api.LGot, Term: 5, Yes: true, At: 3})
		w.hears(t, 2, api.Letter{Kind: api.LGot, Term: 5, To: 2})
		w.hears(t, 0, api.Letter{Kind: api.LSend, Term: 5})
		beats(t, "behind answers", w, 2)
	}
}

func TestTheGreatestTerm(t *testing.T) {
	w := with(t, 1, 3, highest-1, terms(1, 2)...)
	stands(t, "the term ahead of the greatest", w, 22)
	w.takes(t)
	w.ticks(t, 100)
	if w.r.Term() != highest || w.r.Role() != api.Candidate || len(w.news(t)) != 0 || len(w.outs(t)) != 0 {
		t.Error("it stands in the greatest term")
	}
	w.hears(t, 0, api.Letter{Kind: api.LSay, Term: highest, Yes: true})
	if w.r.Role() != api.Leader {
		t.Error("nobody leads in the greatest term")
	}
	w.proposes(t, say("a"))
	beats(t, "in the greatest term", w, 4)
	w = with(t, 0, 1, highest, terms(1, 2)...)
	w.ticks(t, 100)
	if w.r.Role() != api.Follower || len(w.news(t)) != 0 {
		t.Error("a group of one stands in the greatest term")
	}
	w = with(t, 0, 3, highest, terms(1, 2)...)
	w.hears(t, 2, api.Letter{Kind: api.LSend, Term: highest, At: 2, AtTerm: 2, To: 1})
	w.ticks(t, 100)
	if w.r.Role() != api.Follower || w.r.Leader() != 2 || w.r.Term() != highest {
		t.Error("a follower stands in the greatest term")
	}
}

// It leads with the vote by which they are enough: not ahead of it, and each
// counts once.
func TestLeading(t *testing.T) {
	for n := 2; n < 8; n++ {
		for me := range n {
			w := fresh(me, n)
			w.ticks(t, 20+2*me)
			have := 1
			for k := 1; k < n; k++ {
				from := (me + k) % n
				for range 3 {
					w.hears(t, from, api.Letter{Kind: api.LSay, Term: 1})
					w.hears(t, from, api.Letter{Kind: api.LSay, Term: 1, Yes: true})
				}
				have++
				if leads := 2*have > n; leads != (w.r.Role() == api.Leader) || leads && w.r.Leader() != me {
					t.Fatalf("%d of %d with %d votes: %d", me, n, have, w.r.Role())
				}
			}
			stays := w.copied()
			stays.ticks(t, 50)
			if stays.r.Term() != 1 || stays.r.Role() != api.Leader {
				t.Error("a leader stands")
			}
		}
	}
}

// Votes of one term are none in the next one, and votes of another term are none.
func TestVotesOfOtherTerms(t *testing.T) {
	w := fresh(0, 5)
	w.ticks(t, 20)
	w.hears(t, 1, api.Letter{Kind: api.LSay, Term: 1, Yes: true})
	w.ticks(t, 20)
	w.hears(t, 2, api.Letter{Kind: api.LSay, Term: 2, Yes: true})
	w.hears(t, 3, api.Letter{Kind: api.LSay, Term: 1, Yes: true})
	if w.r.Role() != api.Candidate {
		t.Error("votes of an earlier term count")
	}
	w.hears(t, 3, api.Letter{Kind: api.LSay, Term: 3, Yes: true})
	if w.r.Role() != api.Follower || w.r.Term() != 3 {
		t.Error("votes of a later term count")
	}
	w.hears(t, 4, api.Letter{Kind: api.LSay, Term: 3, Yes: true})
	w.hears(t, 1, api.Letter{Kind: api.LSay, Term: 3, Yes: true})
	if w.r.Role() != api.Follower {
		t.Error("a follower leads")
	}
}

func TestWhatALeaderBeginsWith(t *testing.T) {
	w := with(t, 1, 4, 4, terms(1, 2, 3)...)
	w.ticks(t, 22)
	w.outs(t)
	w.hears(t, 3, api.Letter{Kind: api.LSay, Term: 5, Yes: true})
	w.hears(t, 0, api.Letter{Kind: api.LSay, Term: 5, Yes: true})
	if it, ok := w.r.Line().Item(4); !ok || it.Term != 5 || len(it.B) != 0 {
		t.Errorf("its first item is %v, %v", it, ok)
	}
	toAll(t, w, api.Letter{Kind: api.LSend, Term: 5, At: 3, AtTerm: 3, Items: []api.Item{{Term: 5}}})
	if w.r.Commit() != 0 {
		t.Error("it has agreed")
	}
}

// A line without room has no first item.
func TestALeaderWithoutRoom(t *testing.T) {
	p := newPaper(0, 3)
	p.term, p.base, p.baseTerm, p.items, p.state = 4, 7, 2, many(mostItems, 3), say("s")
	q := newPaper(0, 3)
	q.term, q.base, q.baseTerm = 4, highest, 3
	s := newPaper(0, 3)
	s.term, s.base, s.baseTerm, s.items = 4, highest-2, 2, terms(3, 3)
	for _, p := range []*paper{p, q, s} {
		w := loaded(t, p)
		w.ticks(t, 20)
		w.outs(t)
		w.hears(t, 2, api.Letter{Kind: api.LSay, Term: 5, Yes: true})
		toAll(t, w, api.Letter{Kind: api.LSend, Term: 5, At: p.last(), AtTerm: 3, To: p.base})
		if len(w.news(t)) != 1 {
			t.Error("there is an item")
		}
		if at, x := w.proposes(t, say("a")); at != 0 || x != api.ErrFull {
			t.Error("there is room")
		}
		w.hears(t, 1, api.Letter{Kind: api.LGot, Term: 5, Yes: true, At: p.last()})
		if w.r.Commit() != p.base {
			t.Error("an earlier term's item is agreed")
		}
		one := p.anew()
		one.n = 1
		w = loaded(t, one)
		w.ticks(t, 24)
		if w.r.Role() != api.Leader || w.r.Commit() != p.base {
			t.Error("a group of one without room doesn't lead, or agrees")
		}
	}
	// With room for one item there is just that.
	p.items = p.items[:mostItems-1]
	s.items = s.items[:1]
	for _, p := range []*paper{p, s} {
		w := loaded(t, p)
		w.leads(t)
		if at, _ := w.r.Line().Last(); at != p.last()+1 {
			t.Error("there is no room for a first item")
		}
		if _, x := w.proposes(t, say("a")); x != api.ErrFull {
			t.Error("there is room for two")
		}
	}
}

// What a leader sends: at most 16 items, from next on; the state, if they are gone.
func TestSending(t *testing.T) {
	for n := range 40 {
		w := with(t, 0, 3, 4, many(n, 3)...)
		w.leads(t)
		// 1 has nothing: by its answers next comes down to 1.
		for at := n; at > 0; at-- {
			w.hears(t, 1, api.Letter{Kind: api.LGot, Term: 5, To: at, At: at - 1})
		}
		out := w.outs(t)
		l := out[len(out)-1].L
		if l.Kind != api.LSend || l.At != 0 || l.AtTerm != 0 || len(l.Items) != min(n+1, 16) || l.To != 0 {
			t.Fatalf("%d items: at %d of %d, %d of them", n, l.At, l.AtTerm, len(l.Items))
		}
		for at := 0; at < n; at += 16 {
			w.hears(t, 1, api.Letter{Kind: api.LGot, Term: 5, Yes: true, At: min(at+16, n+1)})
		}
		w.hears(t, 1, api.Letter{Kind: api.LGot, Term: 5, Yes: true, At: n + 1})
		w.takes(t)
		w.ticks(t, 4)
		out = w.outs(t)
		if out[0].L.At != n+1 || out[0].L.To != n+1 || len(out[0].L.Items) != 0 || out[1].L.At != n || len(out[1].L.Items) != 1 {
			t.Fatalf("%d items: behind all: %v", n, out)
		}
	}
}

func TestGiving(t *testing.T) {
	w := leading(t, 0, 3, 4, terms(1, 2, 3)...)
	w.hears(t, 1, api.Letter{Kind: api.LGot, Term: 5, Yes: true, At: 4})
	w.hears(t, 2, api.Letter{Kind: api.LGot, Term: 5, To: 3, At: 1})
	for range 3 {
		w.next(t)
	}
	w.compacts(t, say("state"))
	w.outs(t)
	w.ticks(t, 4)
	out := w.outs(t)
	// 1 has all; what 2 lacks is from 2 on, and gone.
	if len(out) != 2 || out[0].L.Kind != api.LSend || out[0].L.At != 4 || out[0].L.AtTerm != 5 || len(out[0].L.Items) != 0 {
		t.Errorf("%v", out)
	}
	want := api.Letter{Kind: api.LGive, Term: 5, At: 3, AtTerm: 3, B: say("state")}
	if !samePost(out[1], api.Post{To: 2, L: want}) {
		t.Errorf("%v, not %v", out[1], want)
	}
	w.hears(t, 2, api.Letter{Kind: api.LGot, Term: 5, Yes: true, At: 3, To: 3})
	out = w.outs(t)
	if len(out) != 1 || out[0].L.Kind != api.LSend || out[0].L.At != 3 || len(out[0].L.Items) != 1 || out[0].L.To != 4 {
		t.Errorf("behind the state: %v", out)
	}
	// The item behind the base is there, the one at it isn't.
	for next, kind := range map[int]int{3: api.LGive, 4: api.LSend} {
		w := leading(t, 0, 3, 4, terms(1, 2, 3)...)
		w.hears(t, 1, api.Letter{Kind: api.LGot, Term: 5, Yes: true, At: 4})
		if next == 3 {
			w.hears(t, 2, api.Letter{Kind: api.LGot, Term: 5, To: 3, At: 2})
		}
		for range 3 {
			w.next(t)
		}
		w.compacts(t, nil)
		w.ticks(t, 4)
		if out := w.outs(t); out[len(out)-1].L.Kind != kind {
			t.Errorf("next is %d, the base 3: %v", next, out)
		}
	}
}

// All the greatest parts of letters go out as they are.
func TestSendingTheGreatest(t *testing.T) {
	var items []api.Item
	for k := range 17 {
		items = append(items, api.Item{Term: highest - 1, B: slices.Repeat([]byte{byte(k)}, mostItem)})
	}
	p := newPaper(0, 2)
	p.term, p.items, p.base, p.baseTerm, p.state = highest-1, items, highest-18, highest-2, slices.Repeat(say("s"), mostState)
	w := loaded(t, p)
	w.leads(t)
	w.takes(t)
	w.hears(t, 1, api.Letter{Kind: api.LGot, Term: highest, To: highest - 1, At: highest - 18})
	if out := w.outs(t); len(out) != 1 || len(out[0].L.Items) != 16 {
		t.Error("not 16 items")
	}
	w.hears(t, 1, api.Letter{Kind: api.LGot, Term: highest, To: highest - 18, At: 0})
	if out := w.outs(t); len(out) != 1 || out[0].L.Kind != api.LGive || len(out[0].L.B) != mostState {
		t.Error("not the state")
	}
	w.hears(t, 1, api.Letter{Kind: api.LGot, Term: highest, Yes: true, At: highest})
	if w.r.Commit() != highest {
		t.Error("the greatest index isn't agreed")
	}
	w.takes(t)
	w.compacts(t, say("s"))
	w.ticks(t, 4)
	w.takes(t)
}
