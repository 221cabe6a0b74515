package line_test

import (
	"slices"
	"testing"

	"seisin/api"
	"seisin/line"
)

// agree must find that two lines, if they have one term at one index, have the
// same up to there; it answers how many indices they share.
func agree(t *testing.T, what string, a, b *line.Line) int {
	t.Helper()
	aBase, _ := a.Base()
	bBase, _ := b.Base()
	aLast, _ := a.Last()
	bLast, _ := b.Last()
	from := max(aBase, bBase)
	at := min(aLast, bLast)
	for ; at >= from; at-- {
		x, okA := a.Term(at)
		y, okB := b.Term(at)
		if !okA || !okB {
			t.Fatalf("%s: no term at %d", what, at)
		}
		if x == y {
			break
		}
	}
	shared := max(at-from, 0)
	if x, y := a.From(from+1, shared), b.From(from+1, shared); !sameItems(x, y) || len(x) != shared {
		t.Fatalf("%s: one term at %d, and others up to there:\n%v\n%v", what, at, x, y)
	}
	return shared
}

// leader has a line to which its own term's items come, behind those of a leader
// of a lesser term.
type leader struct {
	term int
	l    *line.Line
}

// follow answers a leader of that term, which has some of another one's line.
func follow(t *testing.T, from leader, term, last int) leader {
	t.Helper()
	l := line.New(0, 0)
	if _, ok := l.Join(0, 0, from.l.From(1, last)); !ok {
		t.Fatal("a front of a line isn't joined")
	}
	return leader{term, l}
}

// piece joins some of a leader's line to another one.
func (d *dice) piece(l *line.Line, from leader) (int, bool) {
	last, _ := from.l.Last()
	prev := d.below(last + 1)
	term, _ := from.l.Term(prev)
	return l.Join(prev, term, from.l.From(prev+1, d.below(5)))
}

// P17.4

// One line that grows, as terms and leaders go; pieces of it, of any of its
// leaders, come late, doubled and in any order. Bases are all one.
func TestLinesOfPiecesAgree(t *testing.T) {
	shared, replaced := 0, 0
	for seed := range 150 {
		d := dice(seed)
		leaders := []leader{{0, line.New(0, 0)}}
		lines := []*line.Line{line.New(0, 0), line.New(0, 0), line.New(0, 0), line.New(0, 0)}
		for range 120 {
			at := d.below(len(leaders))
			one := leaders[at]
			switch d.below(8) {
			case 0:
				last, _ := one.l.Last()
				leaders = append(leaders, follow(t, one, len(leaders), d.below(last+2)))
			case 1, 2:
				// Each item has bytes that no other one has.
				one.l.Add(api.Item{Term: one.term, B: row(d.below(1<<30), 9)})
			default:
				l := lines[d.below(len(lines))]
				was, _ := l.Last()
				if first, ok := d.piece(l, one); ok && first > 0 && first <= was {
					replaced++
				}
			}
		}
		for _, a := range lines {
			for _, b := range lines {
				shared += agree(t, "two lines", a, b)
			}
			for _, one := range leaders {
				shared += agree(t, "a line and a leader's", a, one.l)
			}
		}
	}
	if shared < 5000 || replaced < 200 {
		t.Errorf("only %d indices are shared, and %d items replaced", shared, replaced)
	}
}

// ofRising is a line with terms that never fall, and bytes of its own.
func ofRising(t *testing.T, d *dice, many int) leader {
	t.Helper()
	l, term := line.New(0, 0), 1
	for i := range many {
		if term += d.below(3) / 2; l.Add(api.Item{Term: term, B: row(i, 6)}) != i+1 {
			t.Fatal("an item isn't added")
		}
	}
	return leader{term, l}
}

// All pieces of one line, in any order, behind bases of any index of it: what has
// come is what stands there.
func TestLinesOfPiecesOfOneLine(t *testing.T) {
	for seed := range 100 {
		d := dice(seed)
		one := ofRising(t, &d, 30)
		var lines []*line.Line
		for base := range 31 {
			term, _ := one.l.Term(base)
			lines = append(lines, line.New(base, term))
		}
		for range 300 {
			l := lines[d.below(len(lines))]
			last, _ := l.Last()
			first, ok := d.piece(l, one)
			if ok && first > 0 && first != last+1 {
				t.Fatalf("item %d of one line comes anew", first)
			}
		}
		for base, l := range lines {
			if !slices.EqualFunc(l.From(base+1, 99), one.l.From(base+1, len(l.From(base+1, 99))), sameItem) {
				t.Fatalf("base %d has what one line hasn't", base)
			}
			for _, other := range lines {
				agree(t, "two lines", l, other)
			}
		}
	}
}

// All rows of three pieces of two leaders' lines, of which one has a front of the
// other one's.
func TestAllShortRowsOfPieces(t *testing.T) {
	type piece struct {
		from       leader
		prev, many int
	}
	for front := range 4 {
		one := leader{1, line.New(0, 0)}
		for k := range 3 {
			one.l.Add(api.Item{Term: 1, B: []byte{'a' + byte(k)}})
		}
		other := follow(t, one, 2, front)
		for k := range 2 {
			other.l.Add(api.Item{Term: 2, B: []byte{'A' + byte(k)}})
		}
		var pieces []piece
		for _, from := range []leader{one, other} {
			last, _ := from.l.Last()
			for prev := range last {
				for many := 1; many <= last-prev; many++ {
					pieces = append(pieces, piece{from, prev, many})
				}
			}
		}
		for _, x := range pieces {
			for _, y := range pieces {
				for _, z := range pieces {
					l := line.New(0, 0)
					for _, p := range []piece{x, y, z} {
						term, _ := p.from.l.Term(p.prev)
						l.Join(p.prev, term, p.from.l.From(p.prev+1, p.many))
					}
					agree(t, "three pieces", l, one.l)
					agree(t, "three pieces", l, other.l)
				}
			}
		}
	}
}

// A leader that sends all behind what the other one surely has, and one less if
// it is refused, is at last heard whole.
func TestPiecesComeToTheWholeLine(t *testing.T) {
	for seed := range 100 {
		d := dice(seed)
		one := ofRising(t, &d, 25)
		other := follow(t, one, one.term+1, d.below(26))
		for range 8 {
			other.l.Add(api.Item{Term: other.term, B: row(d.below(1<<30), 4)})
		}
		l := line.New(0, 0)
		for range 20 {
			d.piece(l, one)
		}
		last, _ := other.l.Last()
		prev, mine := last, 0
		for {
			term, _ := other.l.Term(prev)
			if _, ok := l.Join(prev, term, other.l.From(prev+1, 99)); ok {
				break
			}
			if mine, _ = l.Last(); prev == 0 {
				t.Fatalf("refused behind the base, with the last %d", mine)
			}
			prev--
		}
		for at := 1; at <= last; at++ {
			x, okX := l.Item(at)
			y, okY := other.l.Item(at)
			if !okX || !okY || !sameItem(x, y) {
				t.Fatalf("item %d hasn't come", at)
			}
		}
		agree(t, "a line that came whole", l, other.l)
	}
}
