package raft

import (
	"bytes"

	"seisin/api"
	"seisin/letter"
	"seisin/line"
	"seisin/vote"
)

// Handle takes a letter of another replica of the group.
func (r *Raft) Handle(from int, l api.Letter) {
	if from < 0 || from >= r.n || from == r.me || !letter.Right(l) {
		return
	}
	if l.Term > r.ballot.Term {
		r.cast(vote.Step(r.ballot, l.Term))
		r.role, r.leader = api.Follower, api.Nobody
	}
	switch l.Kind {
	case api.LAsk:
		r.grant(from, l)
	case api.LSay:
		if l.Yes && l.Term == r.ballot.Term && r.role == api.Candidate {
			r.poll(from)
		}
	case api.LSend:
		if r.hear(from, l) {
			r.join(from, l)
		}
	case api.LGive:
		if r.hear(from, l) {
			r.take(from, l)
		}
	case api.LGot:
		if l.Term == r.ballot.Term && r.role == api.Leader {
			r.learn(from, l)
		}
	}
}

// grant answers who asks for a vote.
func (r *Raft) grant(from int, l api.Letter) {
	last, term := r.line.Last()
	b, yes := vote.Grant(r.ballot, from, l.Term, vote.AsNew(l.At, l.AtTerm, last, term))
	if yes {
		r.cast(b)
		r.count = 0
	}
	r.post(from, api.Letter{Kind: api.LSay, Yes: yes})
}

// hear tells whether a letter comes from who leads in this term, and follows it
// then.
func (r *Raft) hear(from int, l api.Letter) bool {
	if l.Term < r.ballot.Term {
		r.answer(from, l, false, 0)
		return false
	}
	if r.role == api.Leader {
		return false
	}
	r.role, r.leader, r.count = api.Follower, from, 0
	return true
}

// answer answers a leader's letter: whether it was of use, and which index to go
// on from.
func (r *Raft) answer(to int, l api.Letter, yes bool, at int) {
	r.post(to, api.Letter{Kind: api.LGot, Yes: yes, At: at, To: l.At})
}

// join takes over a leader's items, but never in place of what is agreed.
func (r *Raft) join(from int, l api.Letter) {
	// On a copy: which items are others shows only behind it.
	joined := r.line.Copy()
	first, ok := joined.Join(l.At, l.AtTerm, l.Items)
	if !ok {
		last, _ := r.line.Last()
		r.answer(from, l, false, max(0, min(last, l.At-1)))
		return
	}
	if first > 0 && first <= r.commit {
		return
	}
	r.line = joined
	// At 0, which is no item's index, there is nothing to note.
	for i, it := range joined.From(first, api.MaxItems) {
		r.noteItem(first+i, it)
	}
	last := l.At + len(l.Items)
	r.commit = max(r.commit, min(l.To, last))
	r.answer(from, l, true, last)
}

// take takes over a leader's state, if it tells more than what is agreed here.
func (r *Raft) take(from int, l api.Letter) {
	if l.At <= r.commit {
		r.answer(from, l, true, r.commit)
		return
	}
	if term, ok := r.line.Term(l.At); ok && term == l.AtTerm {
		r.line.Drop(l.At)
	} else {
		r.line = line.New(l.At, l.AtTerm)
	}
	r.commit, r.applied = l.At, l.At
	r.state = bytes.Clone(l.B)
	r.jumped = true
	r.answer(from, l, true, l.At)
}

// learn lets a leader go by what a replica answered, and sends it what comes next,
// if there is something.
func (r *Raft) learn(from int, l api.Letter) {
	last, _ := r.line.Last()
	match, next := r.match[from], r.next[from]
	switch {
	case l.Yes && l.At <= last:
		r.match[from] = max(match, l.At)
		r.next[from] = max(next, l.At+1)
		r.agree()
		if r.next[from] <= last {
			r.send(from)
		}
	case !l.Yes && l.To == next-1 && l.To > match:
		r.next[from] = max(match+1, min(l.At+1, l.To))
		r.send(from)
	}
}
