package raft

import (
	"bytes"

	"seisin/api"
	"seisin/vote"
)

// Tick counts a tick.
func (r *Raft) Tick() {
	r.count++
	switch {
	case r.role == api.Leader && r.count >= api.Beat:
		r.count = 0
		r.others(r.send)
	case r.role != api.Leader && r.count >= api.Patience+api.Stagger*r.me:
		r.stand()
	}
}

// others does something for each other replica of the group.
func (r *Raft) others(do func(to int)) {
	for to := range r.n {
		if to != r.me {
			do(to)
		}
	}
}

// post lets a letter of this term go out.
func (r *Raft) post(to int, l api.Letter) {
	l.Term = r.ballot.Term
	r.out = append(r.out, api.Post{To: to, L: l})
}

// cast lets the ballot be another one.
func (r *Raft) cast(b api.Ballot) {
	if b != r.ballot {
		r.ballot = b
		r.noteBallot()
	}
}

// stand asks all for their votes in the next term, if there is one.
func (r *Raft) stand() {
	r.count = 0
	if r.ballot.Term == api.MaxTerm {
		return
	}
	r.cast(api.Ballot{Term: r.ballot.Term + 1, For: r.me})
	r.role, r.leader = api.Candidate, api.Nobody
	r.votes = [api.MaxReplicas]bool{}
	last, term := r.line.Last()
	r.others(func(to int) { r.post(to, api.Letter{Kind: api.LAsk, At: last, AtTerm: term}) })
	r.poll(r.me)
}

// poll counts a candidate's vote.
func (r *Raft) poll(from int) {
	r.votes[from] = true
	have := 0
	for _, yes := range r.votes {
		if yes {
			have++
		}
	}
	if have >= vote.Enough(r.n) {
		r.lead()
	}
}

// lead begins to lead.
func (r *Raft) lead() {
	r.role, r.leader, r.count = api.Leader, r.me, 0
	last, _ := r.line.Last()
	for to := range r.n {
		r.match[to], r.next[to] = 0, last+1
	}
	// What earlier terms left is agreed by an item of this term alone: so there is
	// one at once.
	r.add(nil)
	r.others(r.send)
}

// add puts an item of this term behind all, and answers its index; 0, if there is
// no room.
func (r *Raft) add(b []byte) int {
	it := api.Item{Term: r.ballot.Term, B: b}
	at := r.line.Add(it)
	if at == 0 {
		return 0
	}
	r.noteItem(at, it)
	// A group of one agrees by that.
	r.agree()
	return at
}

// agree looks at commit anew.
func (r *Raft) agree() {
	have := r.match
	have[r.me], _ = r.line.Last()
	agreed, _ := vote.Agreed(have[:r.n])
	// An item of an earlier term isn't agreed by how many have it: a later leader
	// may yet put another one there.
	if term, _ := r.line.Term(agreed); agreed > r.commit && term == r.ballot.Term {
		r.commit = agreed
	}
}

// send tells a replica what comes next for it: items, or, if these are gone, the
// state in their place.
func (r *Raft) send(to int) {
	base, baseTerm := r.line.Base()
	next := r.next[to]
	if next <= base {
		r.post(to, api.Letter{Kind: api.LGive, At: base, AtTerm: baseTerm, B: bytes.Clone(r.state)})
		return
	}
	term, _ := r.line.Term(next - 1)
	r.post(to, api.Letter{
		Kind: api.LSend, At: next - 1, AtTerm: term, To: r.commit,
		Items: r.line.From(next, api.MaxItems),
	})
}
