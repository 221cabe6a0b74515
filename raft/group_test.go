package raft_test

import (
	"bytes"
	"crypto/sha256"
	"fmt"
	"math/rand"
	"testing"

	"seisin/api"
	"seisin/raft"
)

// member is a replica of a group, with what it keeps, and with what it did: its
// state is the digest of all that was handed out, one behind the other.
type member struct {
	r     *raft.Raft
	head  []byte
	notes [][]byte
	done  int
	state []byte
}

// group is replicas whose letters are lost, doubled and late, and whose power
// fails, ahead of keeping what lasts or behind it.
type group struct {
	t       *testing.T
	dice    *rand.Rand
	n       int
	members []*member
	mail    []carried
	// leaders is who led in which term.
	leaders map[int]int
	// items are those that were handed out, from index 1 on, and states those
	// behind each of them, from index 0 on.
	items  []api.Item
	states [][]byte
	// agreed is, of each index, the least term in which a leader had it agreed.
	agreed   map[int]int
	begun    int
	proposed int
	jumps    int
}

func newGroup(t *testing.T, seed, n int) *group {
	g := &group{t: t, dice: rand.New(rand.NewSource(int64(seed))), n: n, leaders: map[int]int{}, agreed: map[int]int{}, states: [][]byte{nil}}
	for me := range n {
		g.members = append(g.members, &member{r: raft.New(me, n)})
	}
	return g
}

// behind is the state behind an item.
func behind(state []byte, it api.Item) []byte {
	sum := sha256.Sum256(fmt.Appendf(nil, "%x %d %x", state, it.Term, it.B))
	return sum[:]
}

// keep keeps what lasts; if the power fails, only some of it.
func (g *group) keep(m *member, fails bool) {
	if s, ok := m.r.Jump(); ok {
		if fails && g.dice.Intn(2) == 0 {
			return
		}
		m.head, m.notes, m.state = m.r.Head(), nil, s
		m.done, _ = m.r.Line().Base()
		g.jumps++
		if !bytes.Equal(s, g.states[m.done]) {
			g.t.Fatalf("a state up to %d is another one", m.done)
		}
	}
	news := m.r.News()
	if fails {
		news = news[:g.dice.Intn(len(news)+1)]
	}
	m.notes = append(m.notes, news...)
}

// step does something at a replica: what lasts is kept, then letters go out, then
// what is agreed is done. If the power fails, it begins anew.
func (g *group) step(at int, fails bool, do func(r *raft.Raft)) {
	m := g.members[at]
	do(m.r)
	g.keep(m, fails)
	if fails {
		g.begin(at)
		return
	}
	for _, p := range m.r.Out() {
		g.mail = append(g.mail, carried{at, p})
	}
	if m.r.Role() == api.Leader {
		g.leads(at)
	}
	g.does(m)
}

// begin lets a replica begin anew, with what it kept.
func (g *group) begin(at int) {
	m := g.members[at]
	r, ok := raft.Load(at, g.n, m.head, m.notes)
	if !ok {
		g.t.Fatal("what was kept isn't loaded")
	}
	m.r, m.state = r, r.State()
	m.done, _ = r.Line().Base()
	g.begun++
	if !bytes.Equal(m.state, g.states[m.done]) {
		g.t.Fatalf("a state up to %d is another one", m.done)
	}
}

// leads holds a leader against all that is known: nobody else led in its term, it
// has what was agreed in earlier ones.
func (g *group) leads(at int) {
	r := g.members[at].r
	term := r.Term()
	if who, ok := g.leaders[term]; ok && who != at {
		g.t.Fatalf("%d and %d lead in term %d", who, at, term)
	} else if !ok {
		g.leaders[term] = at
		line := r.Line()
		base, _ := line.Base()
		for i, in := range g.agreed {
			if it, ok := line.Item(i); in < term && i > base && (!ok || i <= len(g.items) && !sameItem(it, g.items[i-1])) {
				g.t.Fatalf("%d leads in term %d without what was agreed at %d in term %d", at, term, i, in)
			}
		}
	}
	for i := r.Commit(); i > 0; i-- {
		if in, ok := g.agreed[i]; ok && in <= term {
			break
		}
		g.agreed[i] = term
	}
}

// does does what is agreed: at one index all do one item.
func (g *group) does(m *member) {
	for i, it, ok := m.r.Next(); ok; i, it, ok = m.r.Next() {
		if i != m.done+1 || i > m.r.Commit() {
			g.t.Fatalf("behind %d comes %d", m.done, i)
		}
		m.done, m.state = i, behind(m.state, it)
		if i > len(g.items)+1 {
			g.t.Fatalf("%d is handed out ahead of all others", i)
		}
		if i == len(g.items)+1 {
			g.items, g.states = append(g.items, it), append(g.states, m.state)
		}
		if !sameItem(it, g.items[i-1]) || !bytes.Equal(m.state, g.states[i]) {
			g.t.Fatalf("two items are handed out at %d", i)
		}
	}
}

// compact lets go what was done.
func (g *group) compact(at int, fails bool) {
	m := g.members[at]
	if !m.r.Compact(m.state) {
		return
	}
	if fails {
		g.begin(at)
		return
	}
	m.head, m.notes = m.r.Head(), nil
}

// comes lets a letter come, which may be doubled, or lost.
func (g *group) comes(at int, lost, twice, fails bool) {
	c := g.mail[at]
	if !twice {
		g.mail = append(g.mail[:at], g.mail[at+1:]...)
	}
	if !lost {
		g.step(c.post.To, fails, func(r *raft.Raft) { r.Handle(c.from, c.post.L) })
	}
}

// propose proposes something new to a replica.
func (g *group) propose(at int, fails bool) {
	g.proposed++
	b := fmt.Appendf(nil, "item %d", g.proposed)
	g.step(at, fails, func(r *raft.Raft) {
		want := api.ErrLeader
		if r.Role() == api.Leader {
			want = api.OK
		}
		if _, x := r.Propose(b); x != want {
			g.t.Fatalf("to propose answers %v", x)
		}
	})
}

// storm is so many things that happen, with odds of its own.
func (g *group) storm(n, lost, twice, fails, compacts int) {
	odds := func(in int) bool { return in > 0 && g.dice.Intn(1000) < in }
	for range n {
		at := g.dice.Intn(g.n)
		switch x := g.dice.Intn(100); {
		case x < 25:
			g.step(at, odds(fails), func(r *raft.Raft) { r.Tick() })
		case x < 35:
			g.propose(at, odds(fails))
		case x < 36 && odds(fails):
			g.begin(at)
		case odds(compacts):
			g.compact(at, odds(fails))
		case len(g.mail) > 0:
			g.comes(g.dice.Intn(min(len(g.mail), 1+g.dice.Intn(40))), odds(lost), odds(twice), odds(fails))
		}
		if len(g.mail) > 200 {
			g.mail = g.mail[100:]
		}
	}
}

// fair is so many ticks of all, behind each of which all letters come.
func (g *group) fair(ticks int) {
	for range ticks {
		for at := range g.n {
			g.step(at, false, func(r *raft.Raft) { r.Tick() })
		}
		for many := 0; len(g.mail) > 0; many++ {
			if many > 20000 {
				g.t.Fatal("letters come without end")
			}
			g.comes(0, false, false, false)
		}
	}
}

// one must find that one leads, whom all know.
func (g *group) one() int {
	g.t.Helper()
	lead := g.members[0].r.Leader()
	for at, m := range g.members {
		if m.r.Leader() != lead || (m.r.Role() == api.Leader) != (at == lead) || m.r.Term() != g.members[0].r.Term() {
			g.t.Fatalf("%d has role %d, and knows %d", at, m.r.Role(), m.r.Leader())
		}
	}
	if lead == api.Nobody {
		g.t.Fatal("nobody leads")
	}
	return lead
}

// goesOn must find that one leads, within as many ticks as the document says, and
// that what is proposed to it is handed out by all.
func (g *group) goesOn() {
	g.t.Helper()
	g.fair(4 * (20 + 2*(g.n-1)))
	lead := g.one()
	was := len(g.items)
	for range 40 {
		g.propose(lead, false)
	}
	g.fair(8)
	if g.one() != lead || len(g.items) < was+40 {
		g.t.Fatal("what was proposed isn't handed out")
	}
	for _, m := range g.members {
		if m.done != len(g.items) || m.r.Commit() != len(g.items) || !bytes.Equal(m.state, g.states[m.done]) {
			g.t.Fatalf("it has done %d of %d", m.done, len(g.items))
		}
	}
	if b := g.items[len(g.items)-1].B; string(b) != fmt.Sprint("item ", g.proposed) {
		g.t.Fatalf("the last item is %q", b)
	}
}

// P18.6

func TestGroups(t *testing.T) {
	begun, leaders, items, jumps := 0, 0, 0, 0
	for seed := range 490 {
		g := newGroup(t, seed, 1+seed%7)
		odds := func(most int) int { return g.dice.Intn(2) * g.dice.Intn(most) }
		for range 3 {
			g.storm(1000, odds(300), odds(300), odds(30), odds(60))
			if seed%2 == 0 {
				g.goesOn()
			}
		}
		g.goesOn()
		begun, leaders, items, jumps = begun+g.begun, leaders+len(g.leaders), items+len(g.items), jumps+g.jumps
	}
	if begun < 1000 || leaders < 1000 || items < 10000 || jumps < 100 {
		t.Errorf("only %d begun anew, %d leaders, %d items, %d jumps", begun, leaders, items, jumps)
	}
	t.Log(begun, leaders, items, jumps)
}

// All letters come, in their order, from the beginning on.
func TestGroupsInFairWeather(t *testing.T) {
	for n := 1; n < 8; n++ {
		g := newGroup(t, n, n)
		// The first one stands first, and all vote for it.
		g.fair(20)
		if g.one() != 0 || len(g.leaders) != 1 {
			t.Errorf("in a group of %d not the first one leads", n)
		}
		g.goesOn()
		g.fair(500)
		if g.one() != 0 || len(g.leaders) != 1 {
			t.Errorf("in a group of %d others lead, too", n)
		}
	}
}

// Enough are there, the others aren't: it goes on; without enough nothing does.
func TestGroupsThatLackSome(t *testing.T) {
	for n := 2; n < 8; n++ {
		for gone := 1; gone < n; gone++ {
			g := newGroup(t, n, n)
			g.goesOn()
			was := len(g.items)
			goes := func(ticks int) {
				for range ticks {
					for at := gone; at < n; at++ {
						g.step(at, false, func(r *raft.Raft) { r.Tick() })
					}
					for len(g.mail) > 0 {
						g.comes(0, g.mail[0].post.To < gone, false, false)
					}
				}
			}
			goes(150)
			for at := gone; at < n; at++ {
				g.propose(at, false)
			}
			goes(20)
			if enough := 2*(n-gone) > n; enough != (len(g.items) > was) {
				t.Errorf("%d of %d are gone: %d items, behind %d", gone, n, len(g.items), was)
			}
			g.goesOn()
		}
	}
}

// Who was away while all was compacted gets the state.
func TestGroupsThatGive(t *testing.T) {
	for n := 2; n < 8; n++ {
		g := newGroup(t, n, n)
		g.goesOn()
		lead := g.one()
		away := (lead + 1) % n
		for k := range 30 {
			if n > 2 {
				g.propose(lead, false)
			}
			for len(g.mail) > 0 {
				g.comes(0, g.mail[0].post.To == away, false, false)
			}
			if k%7 == 0 {
				g.compact(lead, false)
			}
		}
		was := g.jumps
		g.goesOn()
		if n > 2 && g.jumps != was+1 {
			t.Errorf("%d jumps, not one", g.jumps-was)
		}
	}
}
