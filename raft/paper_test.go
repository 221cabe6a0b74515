package raft_test

import (
	"bytes"
	"math/big"
	"slices"

	"seisin/api"
	"seisin/letter"
)

const (
	// highest is the greatest term, and the greatest index.
	highest = 1 << 40
	// mostItems is how many items a line has at most, mostItem how many bytes an
	// item, and mostState how many a state.
	mostItems = 4096
	mostItem  = 8192
	mostState = 65536
	nobody    = -1
)

// paper is a replica by the document's words. Bytes in it are never written to.
type paper struct {
	me, n           int
	term, votedFor  int
	base, baseTerm  int
	items           []api.Item
	state           []byte
	role, leader    int
	commit, applied int
	count           int
	votes           [7]bool
	match, next     [7]int
	jump            bool
	news            [][]byte
	out             []api.Post
}

func newPaper(me, n int) *paper { return &paper{me: me, n: n, votedFor: nobody, leader: nobody} }

func (p *paper) copied() *paper {
	q := *p
	q.items, q.news, q.out = slices.Clone(p.items), slices.Clone(p.news), slices.Clone(p.out)
	return &q
}

// anew is one that begins with what lasts of p.
func (p *paper) anew() *paper {
	q := newPaper(p.me, p.n)
	q.term, q.votedFor, q.base, q.baseTerm, q.state = p.term, p.votedFor, p.base, p.baseTerm, p.state
	q.items = slices.Clone(p.items)
	q.commit, q.applied = p.base, p.base
	return q
}

// numOf is a number's form, by numbers of any size.
func numOf(n int) []byte {
	b := new(big.Int).SetUint64(uint64(n)).Bytes()
	return append([]byte{byte(len(b))}, b...)
}

func textOf(b []byte) []byte { return append(numOf(len(b)), b...) }

func (p *paper) line() []byte {
	b := slices.Concat(numOf(p.base), numOf(p.baseTerm), numOf(len(p.items)))
	for _, it := range p.items {
		b = append(append(b, numOf(it.Term)...), textOf(it.B)...)
	}
	return b
}

func (p *paper) head() []byte {
	return slices.Concat(numOf(p.term), numOf(p.votedFor+1), textOf(p.line()), textOf(p.state))
}

func ballotNote(term, votedFor int) []byte {
	return slices.Concat(numOf(1), numOf(term), numOf(votedFor+1))
}

func itemNote(at int, it api.Item) []byte {
	return slices.Concat(numOf(2), numOf(at), numOf(it.Term), textOf(it.B))
}

func (p *paper) last() int { return p.base + len(p.items) }

// at is the term at an index from the base to the last.
func (p *paper) at(i int) int {
	if i == p.base {
		return p.baseTerm
	}
	return p.items[i-p.base-1].Term
}

// room tells whether a line of that base has room up to that last index.
func (p *paper) room(last int) bool { return last <= highest && last-p.base <= mostItems }

func (p *paper) post(to int, l api.Letter) {
	l.Term = p.term
	p.out = append(p.out, api.Post{To: to, L: l})
}

func (p *paper) ballot(term, votedFor int) {
	if term != p.term || votedFor != p.votedFor {
		p.term, p.votedFor = term, votedFor
		p.news = append(p.news, ballotNote(term, votedFor))
	}
}

func (p *paper) tick() {
	p.count++
	if p.role == api.Leader {
		if p.count == 4 {
			p.count = 0
			p.toAll()
		}
		return
	}
	if p.count < 20+2*p.me {
		return
	}
	p.count = 0
	if p.term == highest {
		return
	}
	p.ballot(p.term+1, p.me)
	p.role, p.leader, p.votes = api.Candidate, nobody, [7]bool{}
	for to := 0; to < p.n; to++ {
		if to != p.me {
			p.post(to, api.Letter{Kind: api.LAsk, At: p.last(), AtTerm: p.at(p.last())})
		}
	}
	p.voted(p.me)
}

// voted is a vote for a candidate.
func (p *paper) voted(from int) {
	p.votes[from] = true
	have := 0
	for k := 0; k < p.n; k++ {
		if p.votes[k] {
			have++
		}
	}
	if 2*have <= p.n {
		return
	}
	p.role, p.leader, p.count = api.Leader, p.me, 0
	for k := range p.next {
		p.next[k], p.match[k] = p.last()+1, 0
	}
	p.comes(nil)
	p.toAll()
}

// comes is an item of its term, behind all; false, if there is no room.
func (p *paper) comes(b []byte) bool {
	if !p.room(p.last() + 1) {
		return false
	}
	it := api.Item{Term: p.term, B: bytes.Clone(b)}
	p.items = append(p.items, it)
	p.news = append(p.news, itemNote(p.last(), it))
	p.anewAgreed()
	return true
}

// anewAgreed is the look at commit anew: from the last index down, how many have
// it?
func (p *paper) anewAgreed() {
	for i := p.last(); i > p.commit; i-- {
		have := 1
		for k := 0; k < p.n; k++ {
			if k != p.me && p.match[k] >= i {
				have++
			}
		}
		if 2*have <= p.n {
			continue
		}
		if p.at(i) == p.term {
			p.commit = i
		}
		return
	}
}

func (p *paper) toAll() {
	for to := 0; to < p.n; to++ {
		if to != p.me {
			p.toOne(to)
		}
	}
}

func (p *paper) toOne(to int) {
	next := p.next[to]
	if next <= p.base {
		p.post(to, api.Letter{Kind: api.LGive, At: p.base, AtTerm: p.baseTerm, B: p.state})
		return
	}
	l := api.Letter{Kind: api.LSend, At: next - 1, AtTerm: p.at(next - 1), To: p.commit}
	for i := next; i <= p.last() && len(l.Items) < 16; i++ {
		l.Items = append(l.Items, p.items[i-p.base-1])
	}
	p.post(to, l)
}

func (p *paper) handle(from int, l api.Letter) {
	if from < 0 || from >= p.n || from == p.me || !letter.Right(l) {
		return
	}
	l = own(l)
	if l.Term > p.term {
		p.ballot(l.Term, nobody)
		p.role, p.leader = api.Follower, nobody
	}
	switch l.Kind {
	case api.LAsk:
		p.asked(from, l)
	case api.LSay:
		if p.role == api.Candidate && l.Term == p.term && l.Yes {
			p.voted(from)
		}
	case api.LSend, api.LGive:
		if l.Term < p.term {
			p.post(from, api.Letter{Kind: api.LGot, To: l.At})
			return
		}
		if p.role == api.Leader {
			return
		}
		p.role, p.leader, p.count = api.Follower, from, 0
		if l.Kind == api.LSend {
			p.sent(from, l)
		} else {
			p.given(from, l)
		}
	case api.LGot:
		if p.role == api.Leader && l.Term == p.term {
			p.got(from, l)
		}
	}
}

func (p *paper) asked(from int, l api.Letter) {
	ownTerm := p.at(p.last())
	asNew := l.AtTerm > ownTerm || l.AtTerm == ownTerm && l.At >= p.last()
	yes := l.Term == p.term && asNew && (p.votedFor == nobody || p.votedFor == from)
	if yes {
		p.ballot(p.term, from)
		p.count = 0
	}
	p.post(from, api.Letter{Kind: api.LSay, Yes: yes})
}

// other is the first index at which items behind prev would be others than here;
// 0, if there is none; false, if they can't be joined.
func (p *paper) other(prev, term int, items []api.Item) (int, bool) {
	if prev > p.last() || prev >= p.base && p.at(prev) != term || !p.room(prev+len(items)) {
		return 0, false
	}
	for k, it := range items {
		if i := prev + 1 + k; i > p.last() || i > p.base && p.at(i) != it.Term {
			return i, true
		}
	}
	return 0, true
}

func (p *paper) sent(from int, l api.Letter) {
	first, ok := p.other(l.At, l.AtTerm, l.Items)
	if !ok {
		p.post(from, api.Letter{Kind: api.LGot, At: max(min(p.last(), l.At-1), 0), To: l.At})
		return
	}
	if first != 0 && first <= p.commit {
		return
	}
	end := l.At + len(l.Items)
	for i := first; first != 0 && i <= end; i++ {
		it := l.Items[i-l.At-1]
		p.items = append(p.items[:i-p.base-1:i-p.base-1], it)
		p.news = append(p.news, itemNote(i, it))
	}
	p.commit = max(p.commit, min(l.To, end))
	p.post(from, api.Letter{Kind: api.LGot, Yes: true, At: end, To: l.At})
}

func (p *paper) given(from int, l api.Letter) {
	if l.At <= p.commit {
		p.post(from, api.Letter{Kind: api.LGot, Yes: true, At: p.commit, To: l.At})
		return
	}
	if l.At <= p.last() && p.at(l.At) == l.AtTerm {
		p.items = slices.Clone(p.items[l.At-p.base:])
	} else {
		p.items = nil
	}
	p.base, p.baseTerm, p.commit, p.applied = l.At, l.AtTerm, l.At, l.At
	p.state, p.jump = l.B, true
	p.post(from, api.Letter{Kind: api.LGot, Yes: true, At: l.At, To: l.At})
}

func (p *paper) got(from int, l api.Letter) {
	if l.Yes {
		if l.At > p.last() {
			return
		}
		p.match[from] = max(p.match[from], l.At)
		p.next[from] = max(p.next[from], l.At+1)
		p.anewAgreed()
		if p.next[from] <= p.last() {
			p.toOne(from)
		}
		return
	}
	if l.To == p.next[from]-1 && l.To > p.match[from] {
		p.next[from] = max(min(l.At+1, l.To), p.match[from]+1)
		p.toOne(from)
	}
}

func (p *paper) propose(b []byte) (int, api.Errno) {
	if p.role != api.Leader {
		return 0, api.ErrLeader
	}
	if len(b) == 0 {
		return 0, api.ErrArg
	}
	if len(b) > mostItem {
		return 0, api.ErrLong
	}
	if !p.comes(b) {
		return 0, api.ErrFull
	}
	p.toAll()
	return p.last(), api.OK
}

func (p *paper) nextItem() (int, api.Item, bool) {
	if p.applied == p.commit {
		return 0, api.Item{}, false
	}
	p.applied++
	return p.applied, p.items[p.applied-p.base-1], true
}

func (p *paper) compact(state []byte) bool {
	if p.applied == p.base || len(state) > mostState {
		return false
	}
	p.baseTerm = p.at(p.applied)
	p.items = slices.Clone(p.items[p.applied-p.base:])
	p.base, p.state = p.applied, bytes.Clone(state)
	return true
}

func (p *paper) jumpState() ([]byte, bool) {
	if !p.jump {
		return nil, false
	}
	p.jump, p.news = false, nil
	return p.state, true
}

// loadBy is Load, by the document's words.
func loadBy(me, n int, head []byte, notes [][]byte) (*paper, bool) {
	if n < 1 || n > 7 || me < 0 || me >= n {
		return nil, false
	}
	p := newPaper(me, n)
	if len(head) > 0 && !p.readHead(head) {
		return nil, false
	}
	for _, b := range notes {
		if !p.readNote(b) {
			return nil, false
		}
	}
	p.commit, p.applied = p.base, p.base
	return p, true
}

// eye reads fields; it is shut as soon as one isn't there.
type eye struct {
	b    []byte
	shut bool
}

func (e *eye) num(most int) int {
	if e.shut || len(e.b) == 0 || int(e.b[0]) > 8 || int(e.b[0]) >= len(e.b) {
		e.shut = true
		return 0
	}
	digits := e.b[1 : 1+int(e.b[0])]
	n := new(big.Int).SetBytes(digits)
	if len(digits) > 0 && digits[0] == 0 || n.Cmp(big.NewInt(int64(most))) > 0 {
		e.shut = true
		return 0
	}
	e.b = e.b[1+len(digits):]
	return int(n.Int64())
}

func (e *eye) text(most int) []byte {
	n := e.num(most)
	if e.shut || n > len(e.b) {
		e.shut = true
		return nil
	}
	b := e.b[:n]
	e.b = e.b[n:]
	return bytes.Clone(b)
}

// whole tells whether all was there, and nothing is left.
func (e *eye) whole() bool { return !e.shut && len(e.b) == 0 }

func (p *paper) readHead(b []byte) bool {
	e := &eye{b: b}
	p.term = e.num(highest)
	p.votedFor = e.num(7) - 1
	l := &eye{b: e.text(1<<31 - 1)}
	p.state = e.text(mostState)
	p.base = l.num(highest)
	p.baseTerm = l.num(highest)
	for range l.num(mostItems) {
		term := l.num(highest)
		p.items = append(p.items, api.Item{Term: term, B: l.text(mostItem)})
	}
	return e.whole() && l.whole() && p.last() <= highest
}

func (p *paper) readNote(b []byte) bool {
	e := &eye{b: b}
	switch e.num(2) {
	case 1:
		term := e.num(highest)
		votedFor := e.num(7) - 1
		p.term, p.votedFor = term, votedFor
	case 2:
		at := e.num(highest)
		term := e.num(highest)
		it := api.Item{Term: term, B: e.text(mostItem)}
		if at <= p.base || at > p.last()+1 || !p.room(at) {
			return false
		}
		p.items = append(p.items[:at-p.base-1:at-p.base-1], it)
	default:
		return false
	}
	return e.whole()
}
