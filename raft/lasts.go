package raft

import (
	"math"

	"seisin/api"
	"seisin/field"
	"seisin/line"
)

// Kinds of notes.
const (
	ballotNote = iota + 1
	itemNote
)

// maxText is how many bytes the form of a head's line has at most.
const maxText = math.MaxInt32

// Load answers a replica that begins anew with what lasted; false, if these are no
// head and no notes behind it.
func Load(me, n int, head []byte, notes [][]byte) (*Raft, bool) {
	r := New(me, n)
	if r == nil || !r.readHead(head) {
		return nil, false
	}
	for _, b := range notes {
		if !r.readNote(b) {
			return nil, false
		}
	}
	base, _ := r.line.Base()
	r.commit, r.applied = base, base
	return r, true
}

// Head answers what lasts.
func (r *Raft) Head() []byte {
	var p field.Pen
	putBallot(&p, r.ballot)
	p.Text(r.line.Put())
	p.Text(r.state)
	return p.Bytes()
}

// noteBallot puts a note of the ballot.
func (r *Raft) noteBallot() {
	var p field.Pen
	p.Num(ballotNote)
	putBallot(&p, r.ballot)
	r.news = append(r.news, p.Bytes())
}

// noteItem puts a note of an item that came to an index.
func (r *Raft) noteItem(at int, it api.Item) {
	var p field.Pen
	p.Num(itemNote)
	p.Num(uint64(at))
	p.Num(uint64(it.Term))
	p.Text(it.B)
	r.news = append(r.news, p.Bytes())
}

// readHead takes over what a head tells; false, if it is none.
func (r *Raft) readHead(b []byte) bool {
	if len(b) == 0 {
		return true
	}
	return field.Read(b, func(eye *field.Eye) {
		r.ballot = readBallot(eye)
		l, x := line.Read(eye.Text(maxText))
		eye.Fail(x)
		r.line = l
		r.state = eye.Text(api.MaxState)
	}) == api.OK
}

// readNote takes over what a note tells; false, if it is none, or can't come
// behind what is there.
func (r *Raft) readNote(b []byte) bool {
	return field.Read(b, func(eye *field.Eye) {
		switch eye.Num(itemNote) {
		case ballotNote:
			r.ballot = readBallot(eye)
		case itemNote:
			at := int(eye.Num(api.MaxIndex))
			term := int(eye.Num(api.MaxTerm))
			it := api.Item{Term: term, B: eye.Text(api.MaxItem)}
			if !r.put(at, it) {
				eye.Fail(api.ErrRange)
			}
		default:
			eye.Fail(api.ErrKind)
		}
	}) == api.OK
}

// put puts an item to an index; what stood there and behind goes. False, if it
// can't come there.
func (r *Raft) put(at int, it api.Item) bool {
	if base, _ := r.line.Base(); at <= base {
		return false
	}
	// Not by the line's Join: that keeps what stands there of the same term, and
	// all behind it.
	if last, _ := r.line.Last(); at <= last {
		r.line = front(r.line, at-1)
	}
	return r.line.Add(it) == at
}

// front answers a line that has the same up to an index, and ends there.
func front(l *line.Line, last int) *line.Line {
	base, term := l.Base()
	f := line.New(base, term)
	f.Join(base, term, l.From(base+1, last-base))
	return f
}

func putBallot(p *field.Pen, b api.Ballot) {
	p.Num(uint64(b.Term))
	// Nobody is below 0, which no field is: all stand one higher.
	p.Num(uint64(b.For + 1))
}

func readBallot(eye *field.Eye) api.Ballot {
	var b api.Ballot
	b.Term = int(eye.Num(api.MaxTerm))
	b.For = int(eye.Num(api.MaxReplicas)) - 1
	return b
}
