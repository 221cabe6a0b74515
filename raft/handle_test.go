package raft_test

import (
	"bytes"
	"fmt"
	"slices"
	"testing"

	"seisin/api"
)

// answers must find that a twin answers a letter with just this one.
func answers(t *testing.T, what string, w *twin, from int, l, want api.Letter) {
	t.Helper()
	w.outs(t)
	w.hears(t, from, l)
	if out := w.outs(t); len(out) != 1 || !samePost(out[0], api.Post{To: from, L: want}) {
		t.Errorf("%s: %v, not %v", what, out, want)
	}
}

// silent must find that a letter has no answer, and changes nothing.
func silent(t *testing.T, what string, w *twin, from int, l api.Letter) {
	t.Helper()
	was := w.copied()
	w.outs(t)
	w.hears(t, from, l)
	if out := w.outs(t); len(out) != 0 {
		t.Errorf("%s: %v", what, out)
	}
	was.outs(t)
	was.r = w.r.Copy()
	was.is(t, what)
}

// roles are a follower, a candidate and a leader of 3, number 1, of term 5, with
// items of the terms 1, 2 and 3; the leader has one more of its own.
func roles(t *testing.T) []*twin {
	t.Helper()
	follower := with(t, 1, 3, 4, terms(1, 2, 3)...)
	follower.hears(t, 0, api.Letter{Kind: api.LSend, Term: 5, At: 3, AtTerm: 3, To: 1})
	candidate := with(t, 1, 3, 4, terms(1, 2, 3)...)
	candidate.ticks(t, 22)
	leader := leading(t, 1, 3, 4, terms(1, 2, 3)...)
	for role, w := range []*twin{follower, candidate, leader} {
		w.takes(t)
		if w.r.Role() != role || w.r.Term() != 5 {
			t.Fatal("not that role")
		}
	}
	return []*twin{follower, candidate, leader}
}

// ofAllKinds are right letters of all kinds, of a term.
func ofAllKinds(term int) []api.Letter {
	return []api.Letter{
		{Kind: api.LAsk, Term: term, At: 9, AtTerm: 9},
		{Kind: api.LAsk, Term: term, At: 1, AtTerm: 1},
		{Kind: api.LSay, Term: term, Yes: true},
		{Kind: api.LSay, Term: term},
		{Kind: api.LSend, Term: term, At: 3, AtTerm: 3, To: 4, Items: terms(4)},
		{Kind: api.LSend, Term: term, At: 5, AtTerm: 3},
		{Kind: api.LGot, Term: term, Yes: true, At: 4},
		{Kind: api.LGot, Term: term, To: 3, At: 1},
		{Kind: api.LGive, Term: term, At: 9, AtTerm: 3, B: say("z")},
		{Kind: api.LGive, Term: term, At: 1, AtTerm: 1, B: say("z")},
	}
}

// P18.3

func TestWhoIsNoOtherReplica(t *testing.T) {
	for _, w := range roles(t) {
		for _, l := range append(ofAllKinds(5), ofAllKinds(9)...) {
			for _, from := range append(extremes, -2, -1, 1, 3, 4, 6, 7, 8) {
				silent(t, fmt.Sprint("a letter of ", from), w, from, l)
			}
		}
	}
	w := fresh(0, 1)
	for _, l := range ofAllKinds(9) {
		for from := range 7 {
			silent(t, "in a group of one", w, from, l)
		}
	}
}

func TestLettersThatAreNotRight(t *testing.T) {
	spoilt := []func(l *api.Letter){
		func(l *api.Letter) { l.Kind = 0 },
		func(l *api.Letter) { l.Kind = 6 },
		func(l *api.Letter) { l.Kind = -l.Kind },
		func(l *api.Letter) { l.Kind += 1 << 32 },
		func(l *api.Letter) { l.Term = -1 },
		func(l *api.Letter) { l.Term = highest + 1 },
		func(l *api.Letter) { l.At = -1 },
		func(l *api.Letter) { l.At = highest + 1 },
		func(l *api.Letter) { l.AtTerm = -1 },
		func(l *api.Letter) { l.AtTerm = highest + 1 },
		func(l *api.Letter) { l.To = -1 },
		func(l *api.Letter) { l.To = highest + 1 },
		func(l *api.Letter) { l.Items = many(17, 5) },
		func(l *api.Letter) { l.Items = terms(-1) },
		func(l *api.Letter) { l.Items = terms(5, highest+1) },
		func(l *api.Letter) { l.Items = []api.Item{{Term: 5, B: make([]byte, mostItem+1)}} },
		func(l *api.Letter) { l.B = make([]byte, mostState+1) },
		func(l *api.Letter) {
			l.Yes = !l.Yes
			l.Items = slices.Concat(l.Items, terms(5))
			l.B = append(bytes.Clone(l.B), 1)
		},
	}
	for _, w := range roles(t) {
		for _, l := range append(ofAllKinds(5), ofAllKinds(9)...) {
			for k, spoil := range spoilt {
				wrong := l
				spoil(&wrong)
				silent(t, fmt.Sprint("letter ", l.Kind, " spoilt by ", k), w, 2, wrong)
			}
		}
	}
}

func TestAGreaterTerm(t *testing.T) {
	for _, w := range roles(t) {
		for _, term := range []int{6, 7, 300, highest} {
			for _, l := range ofAllKinds(term) {
				c := w.copied()
				c.hears(t, 2, l)
				leader := api.Nobody
				if l.Kind == api.LSend || l.Kind == api.LGive {
					leader = 2
				}
				if c.r.Term() != term || c.r.Role() != api.Follower || c.r.Leader() != leader {
					t.Errorf("letter %d of term %d: role %d, leader %d", l.Kind, term, c.r.Role(), c.r.Leader())
				}
			}
		}
		for _, term := range []int{0, 4, 5} {
			for _, l := range ofAllKinds(term) {
				c := w.copied()
				c.hears(t, 2, l)
				if c.r.Term() != 5 {
					t.Errorf("letter %d of term %d makes term %d", l.Kind, term, c.r.Term())
				}
			}
		}
	}
}

func TestVotes(t *testing.T) {
	ask := func(term, at, atTerm int) api.Letter {
		return api.Letter{Kind: api.LAsk, Term: term, At: at, AtTerm: atTerm}
	}
	for _, c := range []struct {
		what          string
		term, at, its int
		yes           bool
	}{
		{"as new", 6, 3, 3, true},
		{"longer", 6, 4, 3, true},
		{"of a greater term", 6, 0, 4, true},
		{"shorter", 6, 2, 3, false},
		{"of a lesser term", 6, 9, 2, false},
		{"of this term, in which there was no vote", 5, 3, 3, true},
		{"of this term, shorter", 5, 2, 3, false},
		{"of an earlier term", 4, 9, 9, false},
	} {
		w := roles(t)[0]
		answers(t, c.what, w, 2, ask(c.term, c.at, c.its), api.Letter{Kind: api.LSay, Term: max(5, c.term), Yes: c.yes})
		if c.yes {
			answers(t, c.what+", once more", w, 2, ask(c.term, c.at, c.its), api.Letter{Kind: api.LSay, Term: c.term, Yes: true})
			answers(t, c.what+", but another one", w, 0, ask(c.term, 9, 9), api.Letter{Kind: api.LSay, Term: c.term})
			answers(t, c.what+", with a log that isn't as new", w, 2, ask(c.term, 1, 1), api.Letter{Kind: api.LSay, Term: c.term})
		}
	}
	for _, w := range roles(t)[1:] {
		answers(t, "who voted for itself", w, 2, ask(5, 99, 99), api.Letter{Kind: api.LSay, Term: 5})
		answers(t, "in the next term", w, 2, ask(6, 99, 99), api.Letter{Kind: api.LSay, Term: 6, Yes: true})
	}
	// It votes by its line, also if that is nothing but a base.
	p := newPaper(1, 3)
	p.term, p.base, p.baseTerm = 9, 7, 4
	w := loaded(t, p)
	answers(t, "at the base", w, 2, ask(9, 6, 4), api.Letter{Kind: api.LSay, Term: 9})
	answers(t, "at the base", w, 2, ask(9, 7, 4), api.Letter{Kind: api.LSay, Term: 9, Yes: true})
}

func TestLettersOfALesserTerm(t *testing.T) {
	for _, w := range roles(t) {
		for _, term := range []int{0, 1, 4} {
			for _, l := range ofAllKinds(term) {
				switch l.Kind {
				case api.LAsk:
					answers(t, "a vote", w, 0, l, api.Letter{Kind: api.LSay, Term: 5})
				case api.LSend, api.LGive:
					answers(t, "a leader's letter", w, 0, l, api.Letter{Kind: api.LGot, Term: 5, To: l.At})
				default:
					silent(t, "an answer", w, 0, l)
				}
			}
		}
	}
}

func TestALeaderHearsNobody(t *testing.T) {
	for _, l := range ofAllKinds(5) {
		if l.Kind == api.LSend || l.Kind == api.LGive || l.Kind == api.LSay {
			silent(t, "a letter of its term", roles(t)[2], 0, l)
		}
	}
}

func TestFollowersAndCandidatesGetNoAnswers(t *testing.T) {
	for _, w := range roles(t)[:2] {
		for _, l := range ofAllKinds(5) {
			if l.Kind == api.LGot || l.Kind == api.LSay && !l.Yes {
				silent(t, "an answer", w, 0, l)
			}
		}
	}
	silent(t, "a vote", roles(t)[0], 0, api.Letter{Kind: api.LSay, Term: 5, Yes: true})
}

func TestWhoLeads(t *testing.T) {
	for _, w := range roles(t)[:2] {
		for _, l := range ofAllKinds(5) {
			if l.Kind != api.LSend && l.Kind != api.LGive {
				continue
			}
			for _, from := range []int{0, 2} {
				c := w.copied()
				c.hears(t, from, l)
				if c.r.Role() != api.Follower || c.r.Leader() != from {
					t.Errorf("letter %d: role %d, leader %d", l.Kind, c.r.Role(), c.r.Leader())
				}
				c.hears(t, from, api.Letter{Kind: api.LSay, Term: 5, Yes: true})
				if c.r.Role() != api.Follower {
					t.Error("a follower is voted for")
				}
			}
		}
	}
}

// got is an answer of term 5.
func got(yes bool, at, to int) api.Letter {
	return api.Letter{Kind: api.LGot, Term: 5, Yes: yes, At: at, To: to}
}

func TestItemsThatJoin(t *testing.T) {
	come := terms(3, 4, 5)
	for _, c := range []struct {
		what           string
		at, its, to    int
		items          []api.Item
		commit, answer int
		line           []int
	}{
		{"behind all", 3, 3, 2, come, 2, 6, []int{1, 2, 3, 3, 4, 5}},
		{"nothing behind all", 3, 3, 2, nil, 2, 3, []int{1, 2, 3}},
		{"nothing in the middle", 2, 2, 9, nil, 2, 2, []int{1, 2, 3}},
		{"what is there", 2, 2, 9, come[:1], 3, 3, []int{1, 2, 3}},
		{"what is there, and more", 2, 2, 9, come, 5, 5, []int{1, 2, 3, 4, 5}},
		{"others", 1, 1, 9, come, 4, 4, []int{1, 3, 4, 5}},
		{"one other", 2, 2, 1, come[2:], 1, 3, []int{1, 2, 5}},
		{"agreed up to there", 2, 2, 3, come, 3, 5, []int{1, 2, 3, 4, 5}},
		{"agreed beyond", 3, 3, highest, come[:2], 5, 5, []int{1, 2, 3, 3, 4}},
		{"agreed as ahead", 3, 3, 0, come, 1, 6, []int{1, 2, 3, 3, 4, 5}},
	} {
		w := roles(t)[0]
		l := api.Letter{Kind: api.LSend, Term: 5, At: c.at, AtTerm: c.its, To: c.to, Items: c.items}
		answers(t, c.what, w, 0, l, got(true, c.answer, c.at))
		var line []int
		for _, it := range w.r.Line().From(1, 99) {
			line = append(line, it.Term)
		}
		if w.r.Commit() != c.commit || !slices.Equal(line, c.line) {
			t.Errorf("%s: commit %d, the line %d", c.what, w.r.Commit(), line)
		}
		// The same once more changes nothing.
		answers(t, c.what+", once more", w, 0, l, got(true, c.answer, c.at))
		// The first one was handed out ahead.
		for i := 2; i <= c.commit; i++ {
			if at, it, ok := w.r.Next(); at != i || it.Term != c.line[i-1] || !ok {
				t.Errorf("%s: handed out is %d of %d", c.what, at, it.Term)
			}
		}
		if _, _, ok := w.r.Next(); ok {
			t.Errorf("%s: more is handed out", c.what)
		}
	}
}

func TestItemsThatDoNotJoin(t *testing.T) {
	for _, c := range []struct {
		what            string
		at, its, answer int
	}{
		{"a gap", 4, 3, 3},
		{"a wide gap", 99, 3, 3},
		{"the highest index", highest, 3, 3},
		{"another term at the last", 3, 4, 2},
		{"another term in the middle", 2, 9, 1},
		{"another term at 1", 1, 2, 0},
		{"another term at the base", 0, 1, 0},
	} {
		for _, items := range [][]api.Item{nil, terms(5), many(16, 5)} {
			w := roles(t)[0]
			line := w.r.Line().Put()
			l := api.Letter{Kind: api.LSend, Term: 5, At: c.at, AtTerm: c.its, To: 3, Items: items}
			answers(t, c.what, w, 0, l, got(false, c.answer, c.at))
			if !bytes.Equal(w.r.Line().Put(), line) || w.r.Commit() != 1 || len(w.news(t)) != 0 {
				t.Errorf("%s: it is joined, or agreed", c.what)
			}
		}
	}
	// Behind a base the answer may be below it.
	p := newPaper(1, 3)
	p.term, p.base, p.baseTerm, p.items = 5, 7, 4, terms(4, 5)
	answers(t, "another term at the base", loaded(t, p), 0, api.Letter{Kind: api.LSend, Term: 5, At: 7, AtTerm: 5}, got(false, 6, 7))
	answers(t, "behind a gap", loaded(t, p), 0, api.Letter{Kind: api.LSend, Term: 5, At: 10, AtTerm: 5}, got(false, 9, 10))
	answers(t, "ahead of the base", loaded(t, p), 0, api.Letter{Kind: api.LSend, Term: 5, At: 5, AtTerm: 1, Items: terms(1)}, got(true, 6, 5))
	answers(t, "ahead of the base and behind", loaded(t, p), 0, api.Letter{Kind: api.LSend, Term: 5, At: 5, AtTerm: 1, To: 9, Items: terms(1, 1, 4, 5)}, got(true, 9, 5))
}

func TestItemsWithoutRoom(t *testing.T) {
	p := newPaper(1, 3)
	p.term, p.base, p.baseTerm, p.items = 5, 7, 4, many(mostItems-3, 5)
	q := newPaper(1, 3)
	q.term, q.base, q.baseTerm, q.items = 5, highest-9, 4, many(6, 5)
	for _, p := range []*paper{p, q} {
		last := p.last()
		for n := range 8 {
			w := loaded(t, p)
			want := got(true, last+n, last)
			if n > 3 {
				want = got(false, last-1, last)
			}
			answers(t, fmt.Sprint(n, " where there is room for 3"), w, 0, api.Letter{Kind: api.LSend, Term: 5, At: last, AtTerm: 5, Items: many(n, 5)}, want)
		}
		w := loaded(t, p)
		answers(t, "in place of others", w, 0, api.Letter{Kind: api.LSend, Term: 5, At: last - 3, AtTerm: 5, Items: many(6, 4)}, got(true, last+3, last-3))
		w = loaded(t, p)
		answers(t, "one too many in place of others", w, 0, api.Letter{Kind: api.LSend, Term: 5, At: last - 3, AtTerm: 5, Items: many(7, 4)}, got(false, last-4, last-3))
	}
}

// What is agreed stays: items that would come in its place change nothing but who
// leads, and have no answer.
func TestItemsInPlaceOfWhatIsAgreed(t *testing.T) {
	for commit := 1; commit <= 3; commit++ {
		for at := range 3 {
			for k := range 3 {
				// The items from at on are as they are, but for the k-th.
				items := slices.Clone(terms(1, 2, 3)[at:])
				if k >= len(items) {
					continue
				}
				items[k].Term = 4
				w := roles(t)[1]
				w.hears(t, 0, api.Letter{Kind: api.LSend, Term: 5, At: 3, AtTerm: 3, To: commit})
				w.takes(t)
				l := api.Letter{Kind: api.LSend, Term: 5, At: at, AtTerm: at, To: 9, Items: items}
				line := w.r.Line().Put()
				w.hears(t, 2, l)
				stays := at+k+1 <= commit
				if bytes.Equal(w.r.Line().Put(), line) != stays || (len(w.outs(t)) == 0) != stays || (w.r.Commit() == commit) != stays {
					t.Errorf("at %d, agreed up to %d: %v", at+k+1, commit, stays)
				}
				if w.r.Leader() != 2 || w.r.Role() != api.Follower {
					t.Error("it doesn't follow")
				}
				if stays && len(w.news(t)) != 0 {
					t.Error("there are notes")
				}
			}
		}
	}
	// Also of a greater term, which it takes over.
	w := roles(t)[0]
	w.hears(t, 2, api.Letter{Kind: api.LSend, Term: 6, Items: terms(4)})
	if w.r.Term() != 6 || w.r.Leader() != 2 || len(w.news(t)) != 1 || len(w.outs(t)) != 0 {
		t.Error("a greater term isn't taken over")
	}
	// What can't be joined anyhow has its answer.
	w = roles(t)[0]
	w.hears(t, 0, api.Letter{Kind: api.LSend, Term: 5, At: 3, AtTerm: 3, To: 3})
	answers(t, "behind another term", w, 0, api.Letter{Kind: api.LSend, Term: 5, At: 1, AtTerm: 2, Items: terms(4, 4)}, got(false, 0, 1))
}

func give(at, its int, b string) api.Letter {
	return api.Letter{Kind: api.LGive, Term: 5, At: at, AtTerm: its, B: say(b)}
}

func TestStatesThatAreKnown(t *testing.T) {
	for at := range 3 {
		w := roles(t)[0]
		w.hears(t, 0, api.Letter{Kind: api.LSend, Term: 5, At: 3, AtTerm: 3, To: 2})
		for range at {
			w.next(t)
		}
		for _, its := range []int{0, 1, 2, 9} {
			answers(t, "a state that is known", w, 0, give(at, its, "z"), got(true, 2, at))
		}
		if w.jumps(t) || len(w.r.State()) != 0 {
			t.Error("it jumps")
		}
	}
}

func TestJumps(t *testing.T) {
	for _, c := range []struct {
		what    string
		at, its int
		left    []int
	}{
		{"with the term that is here", 2, 2, []int{3}},
		{"with the last one's term", 3, 3, nil},
		{"with another term", 2, 3, nil},
		{"with another term at the last", 3, 5, nil},
		{"behind all", 4, 3, nil},
		{"far behind all", highest, highest, nil},
		{"with term 0", 2, 0, nil},
	} {
		w := roles(t)[0]
		answers(t, c.what, w, 2, give(c.at, c.its, "z"), got(true, c.at, c.at))
		base, its := w.r.Line().Base()
		var left []int
		for _, it := range w.r.Line().From(c.at+1, 99) {
			left = append(left, it.Term)
		}
		last, _ := w.r.Line().Last()
		if base != c.at || its != c.its || !slices.Equal(left, c.left) || last != c.at+len(left) ||
			w.r.Commit() != c.at || string(w.r.State()) != "z" || w.r.Leader() != 2 {
			t.Errorf("%s: base %d of %d, %d left, commit %d", c.what, base, its, left, w.r.Commit())
		}
		if w.next(t) {
			t.Errorf("%s: what is in the state is handed out", c.what)
		}
		c2 := w.copied()
		if s, ok := c2.r.Jump(); string(s) != "z" || !ok {
			t.Errorf("%s: no jump", c.what)
		}
		if s, ok := c2.r.Jump(); len(s) != 0 || ok {
			t.Errorf("%s: two jumps", c.what)
		}
		answers(t, c.what+", once more", w, 2, give(c.at, c.its, "other"), got(true, c.at, c.at))
		if s, ok := w.r.Jump(); string(s) != "z" || !ok {
			t.Errorf("%s: another state", c.what)
		}
	}
}

func TestStatesOfAllSizes(t *testing.T) {
	for _, size := range []int{0, 1, mostItem + 1, mostState} {
		w := roles(t)[0]
		l := give(9, 4, "")
		l.B = bytes.Repeat(say("s"), size)
		w.hears(t, 0, l)
		if len(w.r.State()) != size || !w.jumps(t) {
			t.Errorf("%d bytes: no jump", size)
		}
	}
	// Of two jumps the state of the last one is told.
	w := roles(t)[0]
	w.hears(t, 0, give(9, 4, "one"))
	w.hears(t, 0, give(12, 4, "two"))
	if s, ok := w.r.Copy().Jump(); string(s) != "two" || !ok {
		t.Error("another state")
	}
	w.jumps(t)
	// Behind a jump all goes on as ever.
	w.hears(t, 0, api.Letter{Kind: api.LSend, Term: 5, At: 12, AtTerm: 4, To: 13, Items: terms(5, 5)})
	if i, _, ok := w.r.Copy().Next(); i != 13 || !ok {
		t.Error("items behind a jump aren't handed out")
	}
}

func TestAnswersThatAreYes(t *testing.T) {
	w := leading(t, 0, 5, 4, terms(1, 2)...)
	for range 3 {
		w.proposes(t, say("a"))
	}
	// The leader's own items are 3 to 6.
	w.outs(t)
	yes := func(from, at, commit int, sends bool) {
		t.Helper()
		w.hears(t, from, got(true, at, 0))
		if out := w.outs(t); w.r.Commit() != commit || (len(out) == 1) != sends || sends && (out[0].To != from || out[0].L.At != at || out[0].L.To != commit) {
			t.Errorf("%d has up to %d: commit %d, %v", from, at, w.r.Commit(), out)
		}
	}
	yes(1, 2, 0, true)
	yes(2, 2, 0, true)
	yes(3, 3, 0, true)
	yes(2, 7, 0, false)
	yes(2, highest, 0, false)
	yes(2, 4, 3, true)
	yes(1, 6, 4, false)
	// Late ones change nothing, but it is sent what is next.
	w.hears(t, 2, got(true, 3, 0))
	if out := w.outs(t); len(out) != 1 || out[0].L.At != 4 || w.r.Commit() != 4 {
		t.Errorf("a late one: %v", out)
	}
	yes(1, 6, 4, false)
	yes(3, 5, 5, true)
	yes(4, 6, 6, false)
	yes(3, 6, 6, false)
	w.hears(t, 2, got(true, 0, 0))
	if out := w.outs(t); len(out) != 1 || out[0].L.At != 4 {
		t.Errorf("the latest one: %v", out)
	}
}

// What earlier terms left is agreed by an item of the leader's own term alone.
func TestItemsOfEarlierTermsAreNotCounted(t *testing.T) {
	w := leading(t, 0, 3, 4, terms(1, 4, 4)...)
	for at := range 4 {
		w.hears(t, 1, got(true, at, 0))
		w.hears(t, 2, got(true, at, 0))
		if w.r.Commit() != 0 {
			t.Errorf("agreed up to %d", w.r.Commit())
		}
	}
	w.hears(t, 2, got(true, 4, 0))
	if w.r.Commit() != 4 {
		t.Errorf("agreed up to %d, not 4", w.r.Commit())
	}
}

// What is agreed stays agreed, also if the others' answers tell less.
func TestCommitDoesNotFall(t *testing.T) {
	// Its items are of the term in which it leads: they came from somebody else.
	w := with(t, 0, 3, 4, terms(5, 5, 5)...)
	w.hears(t, 1, api.Letter{Kind: api.LSend, Term: 4, At: 3, AtTerm: 5, To: 3})
	w.leads(t)
	for at := range 5 {
		w.hears(t, 1, got(true, at, 0))
		if want := max(3, at); w.r.Commit() != want {
			t.Errorf("agreed up to %d, not %d", w.r.Commit(), want)
		}
	}
}

// Who leads again knows nothing of what was sure when it led ahead.
func TestLeadingAgainBeginsAnew(t *testing.T) {
	w := leading(t, 0, 3, 4, terms(1, 2)...)
	w.hears(t, 1, got(true, 3, 0))
	w.hears(t, 2, got(true, 3, 0))
	w.hears(t, 1, api.Letter{Kind: api.LSend, Term: 6, At: 3, AtTerm: 5})
	w.leads(t)
	w.outs(t)
	// 4 is its first item of term 7; 1 now says that it has nothing.
	w.hears(t, 1, api.Letter{Kind: api.LGot, Term: 7, To: 3, At: 2})
	w.hears(t, 1, api.Letter{Kind: api.LGot, Term: 7, To: 2, At: 0})
	if out := w.outs(t); len(out) != 2 || out[0].L.At != 2 || out[1].L.At != 0 {
		t.Errorf("%v", out)
	}
}

func TestAnswersThatAreNo(t *testing.T) {
	// next is 6 for all, match 0; 1 then says up to where it has what.
	begin := func() *twin {
		w := leading(t, 0, 3, 4, terms(1, 2, 2, 3, 4)...)
		w.proposes(t, say("a"))
		w.outs(t)
		return w
	}
	sent := func(what string, w *twin, l api.Letter, at int) {
		t.Helper()
		w.hears(t, 1, l)
		out := w.outs(t)
		if at < 0 && len(out) != 0 || at >= 0 && (len(out) != 1 || out[0].To != 1 || out[0].L.At != at) {
			t.Errorf("%s: %v, not at %d", what, out, at)
		}
	}
	for at := range 5 {
		sent("where it may go on", begin(), got(false, at, 5), at)
	}
	sent("no higher than it was", begin(), got(false, 5, 5), 4)
	sent("no higher than it was", begin(), got(false, highest, 5), 4)
	for _, to := range []int{0, 1, 4, 6, 7, highest} {
		sent("an answer to another letter", begin(), got(false, 2, to), -1)
	}
	sent("it has more than there is, and is no No", begin(), got(true, 8, 5), -1)
	w := begin()
	sent("it has up to 3", w, got(true, 3, 0), 5)
	sent("what is sure isn't sent again", w, got(false, 0, 5), 3)
	sent("no answer to a letter ahead of what is sure", w, got(false, 0, 3), -1)
	w = begin()
	sent("down to 1", w, got(false, 1, 5), 1)
	sent("the same once more", w, got(false, 1, 5), -1)
	sent("down to 0", w, got(false, 0, 1), 0)
	sent("no lower", w, got(false, 0, 0), -1)
	w.hears(t, 2, got(false, 4, 5))
	if out := w.outs(t); len(out) != 1 || out[0].To != 2 || out[0].L.At != 4 {
		t.Errorf("another one's next has changed: %v", out)
	}
}
