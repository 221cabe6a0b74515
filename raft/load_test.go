package raft_test

import (
	"bytes"
	"fmt"
	"slices"
	"testing"

	"seisin/api"
	"seisin/raft"
)

// loads holds Load against the words; what was handed in must stay, and is
// written over then.
func loads(t *testing.T, me, n int, head []byte, notes ...[]byte) bool {
	t.Helper()
	b, l := bytes.Clone(head), make([][]byte, len(notes))
	for i, note := range notes {
		l[i] = bytes.Clone(note)
	}
	r, ok := raft.Load(me, n, b, l)
	if !bytes.Equal(b, head) || !slices.EqualFunc(l, notes, bytes.Equal) {
		t.Fatal("what was handed in has changed")
	}
	p, want := loadBy(me, n, head, notes)
	if ok != want || (r != nil) != want {
		t.Fatalf("Load(%d, %d) of a head of %d bytes and of %d notes: %v\n%.99x\n%.99x", me, n, len(head), len(notes), ok, head, notes)
	}
	if ok {
		clear(b)
		for _, note := range l {
			clear(note)
		}
		(&twin{r, p}).is(t, "loaded")
	}
	return ok
}

// mustLoad is loads, whose answer is known.
func mustLoad(t *testing.T, what string, want bool, head []byte, notes ...[]byte) {
	t.Helper()
	if loads(t, 1, 3, head, notes...) != want {
		t.Errorf("%s: not %v", what, want)
	}
}

// headOf is a head by its fields.
func headOf(term, votedFor, base, baseTerm int, items []api.Item, state []byte) []byte {
	p := newPaper(0, 1)
	p.term, p.votedFor, p.base, p.baseTerm, p.items, p.state = term, votedFor, base, baseTerm, items, state
	return p.head()
}

// P18.1

func TestLoadHasWhatLasted(t *testing.T) {
	head := []byte("\x01\x05\x01\x03" + "\x01\x0e" + "\x01\x06\x01\x04\x01\x02" + "\x01\x04\x00" + "\x01\x05\x01\x01a" + "\x01\x02zz")
	// The line's form has 14 bytes: base 6 of term 4, and two items, of the terms 4
	// and 5.
	r, ok := raft.Load(2, 5, head, nil)
	if !ok {
		t.Fatal("it isn't loaded")
	}
	index, term := r.Line().Last()
	if r.Role() != api.Follower || r.Term() != 5 || r.Leader() != api.Nobody || r.Commit() != 6 ||
		string(r.State()) != "zz" || index != 8 || term != 5 || !bytes.Equal(r.Head(), head) {
		t.Error("it has something else")
	}
	if _, _, ok := r.Next(); ok || r.Compact(nil) {
		t.Error("something behind the base is applied, or agreed")
	}
	if _, ok := r.Jump(); ok || len(r.News()) != 0 || len(r.Out()) != 0 {
		t.Error("it has something to tell")
	}
	// It voted for 2: for nobody else.
	r.Handle(0, api.Letter{Kind: api.LAsk, Term: 5, At: 9, AtTerm: 5})
	r.Handle(1, api.Letter{Kind: api.LAsk, Term: 5, At: 9, AtTerm: 5})
	for _, p := range r.Out() {
		if p.L.Yes {
			t.Errorf("it votes for %d, too", p.To)
		}
	}
}

func TestLoadOfNoHead(t *testing.T) {
	for n := 1; n < 8; n++ {
		for me := range n {
			if !loads(t, me, n, nil) || !loads(t, me, n, []byte{}) {
				t.Error("an empty head isn't loaded")
			}
			if r, _ := raft.Load(me, n, nil, nil); !bytes.Equal(r.Head(), raft.New(me, n).Head()) {
				t.Error("an empty head isn't New's")
			}
		}
	}
	mustLoad(t, "notes without a head", true, nil, ballotNote(7, 2), itemNote(1, api.Item{Term: 7}), itemNote(2, api.Item{Term: 7, B: say("b")}))
	mustLoad(t, "a gap behind no head", false, nil, itemNote(2, api.Item{Term: 7}))
}

func TestLoadOutside(t *testing.T) {
	head := headOf(1, 0, 0, 0, terms(1), nil)
	for me := -3; me < 10; me++ {
		for n := -3; n < 10; n++ {
			loads(t, me, n, head)
			loads(t, me, n, nil)
			loads(t, me, n, nil, ballotNote(1, 1))
		}
	}
	for _, x := range extremes {
		for _, y := range append(extremes, 0, 1, 3, 7) {
			if loads(t, x, y, head) || loads(t, y, x, nil) {
				t.Errorf("a replica %d of %d, or the other way round", x, y)
			}
		}
	}
}

// All that is counted, or waits, begins anew: the ticks, the votes, what is agreed.
func TestLoadBeginsAnew(t *testing.T) {
	for _, begin := range []func() *twin{
		func() *twin { w := with(t, 1, 5, 3, terms(1, 2)...); w.ticks(t, 21); return w },
		func() *twin { w := with(t, 1, 5, 3, terms(1, 2)...); w.ticks(t, 30); return w },
		func() *twin {
			w := with(t, 1, 5, 3, terms(1, 2)...)
			w.ticks(t, 22)
			w.hears(t, 0, api.Letter{Kind: api.LSay, Term: 4, Yes: true})
			return w
		},
		func() *twin {
			w := leading(t, 1, 5, 3, terms(1, 2)...)
			for from := range 5 {
				w.hears(t, from, api.Letter{Kind: api.LGot, Term: 4, Yes: true, At: 3})
			}
			return w
		},
		func() *twin {
			w := with(t, 1, 5, 3, terms(1, 2)...)
			w.hears(t, 2, api.Letter{Kind: api.LGive, Term: 3, At: 7, AtTerm: 3, B: say("z")})
			w.hears(t, 2, api.Letter{Kind: api.LSend, Term: 3, At: 7, AtTerm: 3, To: 8, Items: terms(3, 3)})
			return w
		},
	} {
		w := loaded(t, begin().p)
		w.ticks(t, 21)
		if w.r.Role() != api.Follower {
			t.Error("ticks were counted ahead")
		}
		w.ticks(t, 1)
		w.hears(t, 2, api.Letter{Kind: api.LSay, Term: w.p.term, Yes: true})
		if w.r.Role() != api.Candidate {
			t.Error("votes were counted ahead")
		}
		w.hears(t, 3, api.Letter{Kind: api.LSay, Term: w.p.term, Yes: true})
		if w.r.Role() != api.Leader {
			t.Error("votes aren't counted")
		}
		w.hears(t, 3, api.Letter{Kind: api.LGot, Term: w.p.term, Yes: true, At: w.p.last()})
		w.ticks(t, 4)
	}
}

func TestHeadsAtTheirBounds(t *testing.T) {
	for _, term := range []int{0, 1, 255, 256, highest - 1, highest, highest + 1, 2 * highest, 1 << 62} {
		is := term <= highest
		mustLoad(t, "a term", is, headOf(term, 0, 0, 0, nil, nil))
		mustLoad(t, "a base", is, headOf(0, 0, term, 0, nil, nil))
		mustLoad(t, "a base's term", is, headOf(0, 0, 0, term, nil, nil))
		mustLoad(t, "an item's term", is, headOf(0, 0, 0, 0, terms(1, term), nil))
		mustLoad(t, "a base with an item behind", term < highest, headOf(0, 0, term, 0, terms(1), nil))
	}
	for votedFor := -1; votedFor < 300; votedFor++ {
		mustLoad(t, "for whom", votedFor <= 6, headOf(3, votedFor, 0, 0, nil, nil))
	}
	for _, size := range []int{0, 1, 255, 256, mostItem - 1, mostItem, mostItem + 1, 2 * mostItem} {
		mustLoad(t, "an item's bytes", size <= mostItem, headOf(0, 0, 0, 0, []api.Item{{B: make([]byte, size)}}, nil))
	}
	for _, size := range []int{0, 1, mostItem + 1, mostState - 1, mostState, mostState + 1, 2 * mostState} {
		mustLoad(t, "a state's bytes", size <= mostState, headOf(0, 0, 0, 0, nil, bytes.Repeat(say("s"), size)))
	}
	for _, n := range []int{mostItems - 1, mostItems, mostItems + 1} {
		mustLoad(t, "a line's items", n <= mostItems, headOf(9, 0, 7, 2, many(n, 3), nil))
		mustLoad(t, "items at the highest index", n <= 9 && n <= mostItems, headOf(9, 0, highest-9, 2, many(n, 3), nil))
	}
	for n := range 12 {
		mustLoad(t, "items at the highest index", n <= 9, headOf(9, 0, highest-9, 2, many(n, 3), nil))
	}
}

// A head's line may be longer than any state, and than any item.
func TestHeadsWithLongLines(t *testing.T) {
	items := make([]api.Item, 300)
	for i := range items {
		items[i] = api.Item{Term: 2, B: bytes.Repeat([]byte{byte(i)}, mostItem)}
	}
	for _, n := range []int{1, 7, 8, 9, 300} {
		mustLoad(t, "a long line", true, headOf(3, 1, 4, 1, items[:n], bytes.Repeat(say("s"), mostState)))
	}
}

// heads are right ones of all kinds of parts.
func heads() [][]byte {
	return [][]byte{
		headOf(0, nobody, 0, 0, nil, nil),
		headOf(5, 2, 6, 4, terms(4, 5), say("state")),
		headOf(300, 6, 70000, 299, []api.Item{{Term: 299}, {Term: 300, B: say("abc")}, {Term: 300}}, nil),
		headOf(highest, 0, highest-2, highest, []api.Item{{Term: highest, B: []byte{0}}, {Term: 1}}, []byte{0, 0}),
	}
}

// changes are all bytes that differ from b at one place: changed, left out, put
// in; and its fronts.
func changes(b []byte) [][]byte {
	var list [][]byte
	for at := range len(b) + 1 {
		list = append(list, b[:at:at])
		for x := range 256 {
			list = append(list, slices.Concat(b[:at], []byte{byte(x)}, b[at:]))
			if at < len(b) {
				list = append(list, slices.Concat(b[:at], []byte{byte(x)}, b[at+1:]))
			}
		}
		if at < len(b) {
			list = append(list, slices.Concat(b[:at], b[at+1:]))
		}
	}
	return list
}

func TestHeadsThatAreChanged(t *testing.T) {
	right := 0
	for _, head := range heads() {
		if !loads(t, 1, 3, head) {
			t.Fatalf("%x isn't loaded", head)
		}
		for _, b := range changes(head) {
			if loads(t, 1, 3, b) {
				right++
			}
		}
	}
	if right < 1000 {
		t.Errorf("only %d are right", right)
	}
}

func TestHeadsOfWrongLines(t *testing.T) {
	l := newPaper(0, 1).line()
	for _, b := range append(changes(l), headOf(0, 0, 0, 0, nil, nil), slices.Concat(l, l)) {
		loads(t, 0, 1, slices.Concat(numOf(1), numOf(0), textOf(b), textOf(nil)))
	}
	for _, behind := range []string{"\x00", "a", "\x01\x00"} {
		if loads(t, 0, 1, append(headOf(1, 0, 0, 0, terms(1), say("s")), behind...)) {
			t.Error("bytes are left")
		}
	}
}

func TestNotes(t *testing.T) {
	base := headOf(3, nobody, 5, 1, terms(1, 2, 3), say("s"))
	it := func(term int, b string) api.Item { return api.Item{Term: term, B: say(b)} }
	for at := range 12 {
		// Items stand at 6, 7 and 8.
		is := at >= 6 && at <= 9
		for _, term := range []int{0, 1, 2, 3, 4, highest} {
			mustLoad(t, fmt.Sprint("an item of ", term, " to ", at), is, base, itemNote(at, it(term, "x")))
			mustLoad(t, fmt.Sprint("an item to ", at, " and behind"), is, base, itemNote(at, it(term, "x")), itemNote(at+1, it(term, "y")))
			mustLoad(t, fmt.Sprint("an item to ", at, " and one too far"), false, base, itemNote(at, it(term, "x")), itemNote(at+2, it(term, "y")))
		}
	}
	r, ok := raft.Load(0, 1, base, [][]byte{itemNote(9, it(3, "i")), itemNote(7, it(2, "k")), ballotNote(4, 0), itemNote(8, it(4, "")), ballotNote(2, 5)})
	if !ok {
		t.Fatal("notes aren't loaded")
	}
	want := headOf(2, 5, 5, 1, []api.Item{terms(1)[0], it(2, "k"), it(4, "")}, say("s"))
	if !bytes.Equal(r.Head(), want) {
		t.Errorf("the head is\n%x, not\n%x", r.Head(), want)
	}
	if len(r.News()) != 0 {
		t.Error("notes that are known are news")
	}
}

// What stood where an item comes goes, and all behind it, also if it has the same
// term, or is the same.
func TestNotesOfTheSameTerm(t *testing.T) {
	items := terms(3, 3, 3)
	for at := 1; at <= 3; at++ {
		for _, b := range []string{"x", "", string(items[at-1].B)} {
			it := api.Item{Term: 3, B: say(b)}
			r, ok := raft.Load(0, 3, headOf(3, nobody, 0, 0, items, nil), [][]byte{itemNote(at, it)})
			if !ok {
				t.Fatal("a note isn't loaded")
			}
			want := headOf(3, nobody, 0, 0, append(slices.Clone(items[:at-1]), it), nil)
			if !bytes.Equal(r.Head(), want) {
				t.Errorf("an item to %d: the head is\n%x, not\n%x", at, r.Head(), want)
			}
		}
	}
}

func TestNotesAtTheirBounds(t *testing.T) {
	for _, x := range []int{0, 1, 255, 256, highest - 1, highest, highest + 1, 2 * highest, 1 << 62} {
		is := x <= highest
		mustLoad(t, "a ballot's term", is, nil, ballotNote(x, 1))
		mustLoad(t, "an item's term", is, nil, itemNote(1, api.Item{Term: x}))
		mustLoad(t, "an index", x == 1, nil, itemNote(x, api.Item{}))
		mustLoad(t, "an index behind a base", x < highest, headOf(0, 0, x, 0, nil, nil), itemNote(x+1, api.Item{}))
		mustLoad(t, "the base's index", false, headOf(0, 0, x, 0, nil, nil), itemNote(x, api.Item{}))
	}
	// What goes round would be an index that there is.
	round := append([]byte("\x01\x02\x08\xff\xff\xff\xff\xff\xff\xff\xff"), "\x00\x00"...)
	mustLoad(t, "an index of 64 bits", false, nil, round)
	for votedFor := -1; votedFor < 300; votedFor++ {
		mustLoad(t, "for whom", votedFor <= 6, nil, ballotNote(3, votedFor))
	}
	for _, size := range []int{0, 1, 255, 256, mostItem - 1, mostItem, mostItem + 1, 2 * mostItem} {
		mustLoad(t, "an item's bytes", size <= mostItem, nil, itemNote(1, api.Item{B: make([]byte, size)}))
	}
	full := headOf(9, 0, 7, 2, many(mostItems, 3), nil)
	mustLoad(t, "no room", false, full, itemNote(7+mostItems+1, api.Item{Term: 3}))
	mustLoad(t, "in place of the last", true, full, itemNote(7+mostItems, api.Item{Term: 3}))
	mustLoad(t, "in place of the last, and one more", false, full, itemNote(7+mostItems, api.Item{Term: 3}), itemNote(7+mostItems+1, api.Item{Term: 3}))
	mustLoad(t, "in place of the first", true, full, itemNote(8, api.Item{Term: 3}))
	mustLoad(t, "at the base", false, full, itemNote(7, api.Item{Term: 2}))
	mustLoad(t, "to the last index, and behind", false, headOf(0, 0, highest-1, 0, nil, nil), itemNote(highest, api.Item{}), itemNote(highest+1, api.Item{}))
	mustLoad(t, "at 0, where there is no room", false, headOf(0, 0, highest, 0, nil, nil), itemNote(0, api.Item{}))
}

func TestNotesThatAreChanged(t *testing.T) {
	head := headOf(3, nobody, 5, 1, terms(1, 2, 3), say("s"))
	right := 0
	for _, note := range [][]byte{
		ballotNote(0, nobody), ballotNote(300, 6), ballotNote(highest, 0),
		itemNote(6, api.Item{}), itemNote(8, api.Item{Term: 3, B: say("b")}), itemNote(9, api.Item{Term: 70000, B: say("abc")}),
	} {
		mustLoad(t, "a note", true, head, note)
		for _, b := range changes(note) {
			if loads(t, 1, 3, head, b) {
				right++
			}
			// Whether it is one hangs on nothing else.
			if loads(t, 1, 3, head, ballotNote(4, 1), b) != loads(t, 1, 3, head, b, ballotNote(4, 1)) {
				t.Fatalf("%x", b)
			}
		}
	}
	if right < 1000 {
		t.Errorf("only %d are right", right)
	}
	for kind := range 300 {
		for _, rest := range []string{"", "\x01\x03\x01\x01", "\x01\x06\x01\x03\x00", "\x00\x00"} {
			loads(t, 1, 3, head, append(numOf(kind), rest...))
		}
	}
	mustLoad(t, "an empty note", false, head, nil)
	mustLoad(t, "an empty note of no head", false, nil, []byte{})
	mustLoad(t, "a head as a note", false, head, head)
	mustLoad(t, "a note as a head", false, ballotNote(3, 1))
}

// P18.5

func TestHeadsAreLoadedAsTheyWere(t *testing.T) {
	for _, head := range heads() {
		if r, ok := raft.Load(0, 7, head, nil); !ok || !bytes.Equal(r.Head(), head) {
			t.Errorf("%x is another one", head)
		}
	}
}

func TestNewsAreOfEachChange(t *testing.T) {
	w := with(t, 1, 3, 4, terms(1, 2, 3)...)
	is := func(what string, want ...[]byte) {
		t.Helper()
		if got := w.news(t); !slices.EqualFunc(got, want, bytes.Equal) {
			t.Errorf("%s: %x, not %x", what, got, want)
		}
	}
	is("nothing")
	w.hears(t, 0, api.Letter{Kind: api.LAsk, Term: 4, At: 3, AtTerm: 2})
	is("a vote that isn't given")
	w.hears(t, 0, api.Letter{Kind: api.LAsk, Term: 4, At: 3, AtTerm: 3})
	is("a vote", ballotNote(4, 0))
	w.hears(t, 0, api.Letter{Kind: api.LAsk, Term: 4, At: 3, AtTerm: 3})
	is("a vote once more")
	w.hears(t, 2, api.Letter{Kind: api.LSay, Term: 6})
	is("a term", ballotNote(6, nobody))
	come := terms(3, 5, 6)
	w.hears(t, 2, api.Letter{Kind: api.LSend, Term: 7, At: 2, AtTerm: 2, Items: come})
	is("a term, and items behind one that is there", ballotNote(7, nobody), itemNote(4, come[1]), itemNote(5, come[2]))
	w.hears(t, 2, api.Letter{Kind: api.LSend, Term: 7, At: 2, AtTerm: 2, To: 1, Items: come[:1]})
	is("items that are there")
	w.hears(t, 2, api.Letter{Kind: api.LSend, Term: 7, At: 1, AtTerm: 1, Items: come[1:2]})
	is("an item in place of others", itemNote(2, come[1]))
	w.hears(t, 2, api.Letter{Kind: api.LSend, Term: 7, At: 7, AtTerm: 1, Items: come})
	is("items that can't be joined")
	w.ticks(t, 22)
	is("a vote for itself", ballotNote(8, 1))
	w.hears(t, 2, api.Letter{Kind: api.LSay, Term: 8, Yes: true})
	is("a leader's first item", itemNote(3, api.Item{Term: 8}))
	w.proposes(t, say("abc"))
	w.proposes(t, say("de"))
	is("proposed", itemNote(4, api.Item{Term: 8, B: say("abc")}), itemNote(5, api.Item{Term: 8, B: say("de")}))
	w.hears(t, 2, api.Letter{Kind: api.LGot, Term: 8, Yes: true, At: 5})
	w.next(t)
	w.compacts(t, say("s"))
	is("what doesn't last, or is in the head alone")
	w.hears(t, 0, api.Letter{Kind: api.LAsk, Term: 9, At: 6, AtTerm: 8})
	is("a term, and a vote", ballotNote(9, nobody), ballotNote(9, 0))
}

// Compacting takes no notes, nor does a jump that isn't asked for.
func TestNewsAndJumps(t *testing.T) {
	begin := func() *twin {
		w := with(t, 1, 3, 4, terms(1, 2, 3)...)
		w.hears(t, 0, api.Letter{Kind: api.LAsk, Term: 5, At: 9, AtTerm: 9})
		w.hears(t, 0, api.Letter{Kind: api.LSend, Term: 5, At: 3, AtTerm: 3, To: 4, Items: terms(5)})
		return w
	}
	w := begin()
	w.next(t)
	w.compacts(t, say("s"))
	if len(w.news(t)) != 3 {
		t.Error("compacting takes notes")
	}
	jump := api.Letter{Kind: api.LGive, Term: 6, At: 9, AtTerm: 5, B: say("z")}
	w = begin()
	w.hears(t, 2, jump)
	if len(w.news(t)) != 4 {
		t.Error("a jump that isn't asked for takes notes")
	}
	if !w.jumps(t) || len(w.news(t)) != 0 {
		t.Error("a jump makes notes")
	}
	w = begin()
	w.hears(t, 2, jump)
	w.hears(t, 2, api.Letter{Kind: api.LSend, Term: 6, At: 9, AtTerm: 5, Items: terms(6)})
	if !w.jumps(t) || len(w.news(t)) != 0 {
		t.Error("a jump leaves notes that are ahead of it")
	}
	if r, ok := raft.Load(1, 3, w.r.Head(), nil); !ok || !bytes.Equal(r.Head(), w.r.Head()) {
		t.Error("the head isn't all")
	}
	w.hears(t, 2, api.Letter{Kind: api.LSend, Term: 6, At: 10, AtTerm: 6, Items: terms(6)})
	if w.jumps(t) || len(w.news(t)) != 1 {
		t.Error("no jump takes notes")
	}
}
