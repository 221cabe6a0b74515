package raft_test

import (
	"bytes"
	"slices"
	"testing"

	"seisin/api"
)

// P18.4

func TestPropose(t *testing.T) {
	w := leading(t, 1, 3, 4, terms(1, 2)...)
	for k, b := range []string{"a", "bc", "\x00", string(make([]byte, mostItem-1)), string(make([]byte, mostItem))} {
		last, _ := w.r.Line().Last()
		at, x := w.proposes(t, say(b))
		it, ok := w.r.Line().Item(at)
		if at != 4+k || x != api.OK || it.Term != 5 || string(it.B) != b || !ok {
			t.Errorf("%d bytes at %d: %v", len(b), at, x)
		}
		// The others have nothing as yet: both are sent all from 3 on.
		var items []api.Item
		for i := 3; i <= last+1; i++ {
			it, _ := w.r.Line().Item(i)
			items = append(items, it)
		}
		toAll(t, w, api.Letter{Kind: api.LSend, Term: 5, At: 2, AtTerm: 2, Items: items})
	}
	if w.r.Commit() != 0 {
		t.Error("it is agreed without the others")
	}
}

func TestProposeErrors(t *testing.T) {
	full := newPaper(1, 3)
	full.term, full.items = 4, many(mostItems-1, 3)
	noRoom := loaded(t, full)
	noRoom.leads(t)
	leader := leading(t, 1, 3, 4, terms(1, 2)...)
	for _, c := range []struct {
		what string
		w    *twin
		size int
		want api.Errno
	}{
		{"nothing", leader, 0, api.ErrArg},
		{"too long", leader, mostItem + 1, api.ErrLong},
		{"much too long", leader, 9 * mostItem, api.ErrLong},
		{"nothing, without room", noRoom, 0, api.ErrArg},
		{"too long, without room", noRoom, mostItem + 1, api.ErrLong},
		{"without room", noRoom, 1, api.ErrFull},
		{"without room", noRoom, mostItem, api.ErrFull},
		{"a follower", roles(t)[0], 1, api.ErrLeader},
		{"a follower, nothing", roles(t)[0], 0, api.ErrLeader},
		{"a follower, too long", roles(t)[0], mostItem + 1, api.ErrLeader},
		{"a candidate", roles(t)[1], 1, api.ErrLeader},
		{"a candidate, nothing", roles(t)[1], 0, api.ErrLeader},
		{"a new one", fresh(0, 1), 1, api.ErrLeader},
	} {
		was := c.w.copied()
		if at, x := c.w.proposes(t, bytes.Repeat(say("b"), c.size)); at != 0 || x != c.want {
			t.Errorf("%s: %d, %v, not %v", c.what, at, x, c.want)
		}
		was.r = c.w.r
		was.is(t, c.what)
	}
	if _, x := leader.r.Propose(nil); x != api.ErrArg {
		t.Error("nil is proposed")
	}
	// Who led doesn't any more.
	leader.hears(t, 0, api.Letter{Kind: api.LSay, Term: 6})
	if _, x := leader.proposes(t, say("a")); x != api.ErrLeader {
		t.Error("it leads still")
	}
}

// Room comes by compacting.
func TestProposeBehindCompacting(t *testing.T) {
	p := newPaper(0, 1)
	p.term, p.items = 4, many(mostItems-3, 3)
	w := loaded(t, p)
	w.ticks(t, 20)
	for range 2 {
		w.proposes(t, say("a"))
	}
	if _, x := w.proposes(t, say("a")); x != api.ErrFull {
		t.Error("there is room")
	}
	w.next(t)
	w.compacts(t, say("s"))
	if at, x := w.proposes(t, say("a")); at != mostItems+1 || x != api.OK {
		t.Error("there is no room")
	}
	if _, x := w.proposes(t, say("a")); x != api.ErrFull {
		t.Error("there is room once more")
	}
}

func TestNext(t *testing.T) {
	w := with(t, 1, 3, 4, terms(1, 2, 3)...)
	w.hears(t, 0, api.Letter{Kind: api.LSend, Term: 4, At: 3, AtTerm: 3, To: 2})
	for i := 1; i <= 2; i++ {
		it := terms(1, 2, 3)[i-1]
		if at, got, ok := w.copied().r.Next(); at != i || !sameItem(got, it) || !ok {
			t.Errorf("%d, %v, %v, not %d, %v", at, got, ok, i, it)
		}
		w.next(t)
	}
	for range 3 {
		if at, it, ok := w.r.Next(); at != 0 || it.Term != 0 || len(it.B) != 0 || ok {
			t.Error("more is handed out than is agreed")
		}
	}
	w.hears(t, 0, api.Letter{Kind: api.LSend, Term: 4, At: 3, AtTerm: 3, To: 3})
	if at, _, ok := w.r.Next(); at != 3 || !ok {
		t.Error("what is agreed later isn't handed out")
	}
}

func TestCompact(t *testing.T) {
	begin := func(applied int) *twin {
		w := with(t, 1, 3, 4, terms(1, 2, 3)...)
		w.hears(t, 0, api.Letter{Kind: api.LSend, Term: 4, At: 3, AtTerm: 3, To: 3})
		for range applied {
			w.next(t)
		}
		return w
	}
	if begin(0).compacts(t, say("s")) {
		t.Error("the base is compacted")
	}
	for applied := 1; applied <= 3; applied++ {
		for _, size := range []int{0, 1, mostItem + 1, mostState - 1, mostState, mostState + 1, 2 * mostState} {
			w := begin(applied)
			state := bytes.Repeat(say("s"), size)
			is := size <= mostState
			if w.compacts(t, state) != is {
				t.Errorf("with %d bytes: not %v", size, is)
			}
			base, term := w.r.Line().Base()
			if is && (base != applied || term != applied || !bytes.Equal(w.r.State(), state)) || !is && (base != 0 || len(w.r.State()) != 0) {
				t.Errorf("with %d bytes: the base is %d of %d", size, base, term)
			}
			if is && w.compacts(t, say("t")) {
				t.Error("it is compacted twice")
			}
			if last, _ := w.r.Line().Last(); last != 3 || w.r.Commit() != 3 {
				t.Error("more is gone")
			}
			for i := applied + 1; i <= 3; i++ {
				w.next(t)
				if is != (base == applied) || !w.compacts(t, say("u")) {
					t.Error("it isn't compacted further")
				}
			}
			w.takes(t)
		}
	}
}

// A jump's state is the one up to the base, also if that was moved on since.
func TestJumpBehindCompacting(t *testing.T) {
	w := with(t, 1, 3, 4, terms(1, 2, 3)...)
	w.hears(t, 0, api.Letter{Kind: api.LGive, Term: 4, At: 2, AtTerm: 2, B: say("two")})
	w.hears(t, 0, api.Letter{Kind: api.LSend, Term: 4, At: 2, AtTerm: 2, To: 3, Items: terms(3)})
	w.next(t)
	w.compacts(t, say("three"))
	if s, ok := w.r.Copy().Jump(); string(s) != "three" || !ok {
		t.Errorf("%q, %v", s, ok)
	}
	w.jumps(t)
}

// P18.5

func TestOutTellsOnce(t *testing.T) {
	w := fresh(0, 3)
	w.ticks(t, 20)
	w.hears(t, 1, api.Letter{Kind: api.LSay, Term: 1, Yes: true})
	w.proposes(t, say("a"))
	w.hears(t, 2, api.Letter{Kind: api.LGot, Term: 1, Yes: true, At: 1})
	var kinds, to []int
	for _, p := range w.r.Out() {
		kinds, to = append(kinds, p.L.Kind), append(to, p.To)
	}
	if !slices.Equal(kinds, []int{1, 1, 3, 3, 3, 3, 3}) || !slices.Equal(to, []int{1, 2, 1, 2, 1, 2, 2}) {
		t.Errorf("kinds %d to %d", kinds, to)
	}
	if len(w.r.Out()) != 0 {
		t.Error("it is told twice")
	}
	if len(w.r.News()) != 3 || len(w.r.News()) != 0 {
		t.Error("notes are told twice")
	}
}
