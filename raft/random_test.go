package raft_test

import (
	"bytes"
	"math/rand"
	"testing"

	"seisin/api"
	"seisin/raft"
)

// walk is a group of twins, to which all kinds of calls come in any order, with
// letters that are theirs, and with others.
type walk struct {
	t     *testing.T
	dice  *rand.Rand
	twins []*twin
	mail  []carried
	// forges tells whether letters come that nobody sent: then seldom anything is
	// agreed.
	forges bool
	seen   map[string]int
}

// carried is a letter under way.
type carried struct {
	from int
	post api.Post
}

func newWalk(t *testing.T, seed int) *walk {
	k := &walk{t: t, dice: rand.New(rand.NewSource(int64(seed))), forges: seed%2 == 0, seen: map[string]int{}}
	n := 1 + k.dice.Intn(5)
	for me := range n {
		w := fresh(me, n)
		if seed%3 == 0 {
			// Some begin near the bounds.
			w.p.term = highest - 1 - k.dice.Intn(4)
			w.p.base = highest - 4 - k.dice.Intn(9)
			w.p.baseTerm = k.dice.Intn(3)
			w = loaded(t, w.p)
		}
		k.twins = append(k.twins, w)
	}
	return k
}

// near is a number beside another one, or rarely any.
func (k *walk) near(x int) int {
	if k.dice.Intn(40) == 0 {
		return []int{-1, 0, highest, highest + 1, 1 << 62}[k.dice.Intn(5)]
	}
	return max(0, x+k.dice.Intn(7)-3)
}

func (k *walk) bytes() []byte {
	b := make([]byte, k.dice.Intn(4))
	k.dice.Read(b)
	return b
}

// forged is a letter that nobody sent, mostly a right one, with numbers that lie
// beside those of its reader.
func (k *walk) forged(w *twin) api.Letter {
	p := w.p
	l := api.Letter{Kind: 1 + k.dice.Intn(5), Term: p.term}
	if k.dice.Intn(6) == 0 {
		l.Term = k.near(p.term)
	}
	at := p.base + k.dice.Intn(len(p.items)+1)
	its := p.at(at)
	if k.dice.Intn(4) == 0 {
		at, its = k.near(p.last()), k.near(p.at(p.last()))
	}
	switch l.Kind {
	case api.LAsk:
		l.At, l.AtTerm = at, its
	case api.LSay:
		l.Yes = k.dice.Intn(2) == 0
	case api.LSend:
		l.At, l.AtTerm, l.To = at, its, k.near(p.commit)
		for i := range k.dice.Intn(5) {
			it := api.Item{Term: p.term - k.dice.Intn(3)/2, B: k.bytes()}
			if here := at + 1 + i; here > p.base && here <= p.last() && k.dice.Intn(8) > 0 {
				it.Term = p.at(here)
			}
			l.Items = append(l.Items, it)
		}
	case api.LGot:
		l.Yes, l.At, l.To = k.dice.Intn(2) == 0, at, k.near(p.last()-1)
	case api.LGive:
		l.At, l.AtTerm, l.B = k.near(p.commit+1), k.near(p.term), k.bytes()
		if here := l.At; here > p.base && here <= p.last() && k.dice.Intn(2) == 0 {
			l.AtTerm = p.at(here)
		}
	}
	return l
}

// post lets the letters of a twin go out.
func (k *walk) post(w *twin) {
	for _, p := range w.outs(k.t) {
		k.mail = append(k.mail, carried{w.p.me, p})
	}
}

// comes lets some letter come, which may be doubled, or lost.
func (k *walk) comes() {
	if len(k.mail) == 0 {
		return
	}
	at := k.dice.Intn(min(len(k.mail), 6))
	c := k.mail[at]
	if k.dice.Intn(8) > 0 {
		k.mail = append(k.mail[:at], k.mail[at+1:]...)
	}
	if k.dice.Intn(8) > 0 {
		w := k.twins[c.post.To]
		was := w.p.copied()
		w.hears(k.t, c.from, c.post.L)
		k.look(was, w.p)
	}
}

// begins lets a twin begin anew: with an earlier head and the notes since, or, if
// it jumps, with the head behind that.
func (k *walk) begins(at int) {
	w := k.twins[at]
	w.jumps(k.t)
	w.news(k.t)
	head := w.r.Head()
	for range 6 {
		k.moves(w, k.dice.Intn(moving))
	}
	if w.jumps(k.t) {
		head = w.r.Head()
	}
	notes := w.news(k.t)
	r, ok := raft.Load(w.p.me, w.p.n, head, notes)
	if !ok || !bytes.Equal(r.Head(), w.r.Head()) {
		k.t.Fatalf("loaded is %v\n%x, not\n%x", ok, r.Head(), w.r.Head())
	}
	k.twins[at] = &twin{r, w.p.anew()}
	k.twins[at].is(k.t, "begun anew")
	k.seen["begun anew"]++
}

// moving is below which number calls are that change what lasts by its notes.
const moving = 72

// moves is one of these calls.
func (k *walk) moves(w *twin, x int) {
	switch {
	case x < 45:
		w.ticks(k.t, 1+k.dice.Intn(3))
	case x < 60 && k.forges:
		w.hears(k.t, k.dice.Intn(w.p.n+1)-k.dice.Intn(2), k.forged(w))
	case x < 60:
		k.comes()
	default:
		w.proposes(k.t, k.bytes())
	}
}

// step is one call, of any kind.
func (k *walk) step(at int) {
	w := k.twins[at]
	was := w.p.copied()
	switch x := k.dice.Intn(100); {
	case x < moving:
		k.moves(w, x)
	case x < 82:
		w.next(k.t)
	case x < 86:
		w.compacts(k.t, k.bytes())
	case x < 89:
		w.jumps(k.t)
	case x < 92:
		w.news(k.t)
	case x < 95:
		k.twins[at] = w.copied()
	case k.forges || x == 99:
		k.begins(at)
	}
	k.look(was, k.twins[at].p)
}

// look counts what came about.
func (k *walk) look(was, is *paper) {
	for what, ok := range map[string]bool{
		"leads":      was.role != api.Leader && is.role == api.Leader,
		"stands":     was.role != api.Candidate && is.role == api.Candidate,
		"follows":    was.role != api.Follower && is.role == api.Follower,
		"agreed":     was.commit < is.commit && is.role == api.Leader && is.n > 1,
		"jumps":      !was.jump && is.jump,
		"compacted":  was.base < is.base && !is.jump,
		"handed out": was.applied < is.applied,
	} {
		if ok {
			k.seen[what]++
		}
	}
}

// All calls in any order, at groups whose letters come late, doubled and not at
// all, and with letters that nobody sent: all is by the words.
func TestWalks(t *testing.T) {
	seen := map[string]int{}
	for seed := range 250 {
		k := newWalk(t, seed)
		for range 600 {
			at := k.dice.Intn(len(k.twins))
			k.step(at)
			for range k.dice.Intn(9) {
				k.comes()
			}
			for _, w := range k.twins {
				k.post(w)
			}
		}
		for what, n := range k.seen {
			seen[what] += n
		}
	}
	for _, what := range []string{"leads", "stands", "follows", "agreed", "jumps", "compacted", "handed out", "begun anew"} {
		if seen[what] < 200 {
			t.Errorf("%s: only %d times", what, seen[what])
		}
	}
	t.Log(seen)
}
