// The tests hold the package's exported calls alone against the document's words,
// and what is on the drum against the forms of layer 13.
package chest_test

import (
	"bytes"
	"slices"
	"testing"

	"seisin/api"
	"seisin/chest"
	"seisin/drum"
	"seisin/scroll"
)

const (
	size    = 64
	longest = 1024
	most    = 8192
	highest = 1 << 40
)

// row is so many bytes without order, none of them 0, always the same ones.
func row(seed, many int) []byte {
	b, x := make([]byte, many), uint64(seed)*2654435761+uint64(many)
	for i := range b {
		x = x*6364136223846793005 + 1442695040888963407
		b[i] = byte(1 + (x>>33)%255)
	}
	return b
}

// noise is a sector of no record.
func noise(n int) []byte { return row(100+n, size) }

// zeros are so many sectors of zeros.
func zeros(sectors int) []byte { return make([]byte, sectors*size) }

// formOf is a record's form, which it must have.
func formOf(turn, n int, b []byte) []byte {
	form, x := scroll.Form(turn, n, b)
	if x != api.OK {
		panic(x)
	}
	return form
}

// formsOf are the forms of records of one turn, from the number 0 on.
func formsOf(turn int, l ...[]byte) []byte {
	var b []byte
	for n, record := range l {
		b = append(b, formOf(turn, n, record)...)
	}
	return b
}

// filling are the bytes of a record that just fills so many sectors.
func filling(turn, n, sectors int) []byte {
	b := row(sectors, sectors*size)
	for {
		form, x := scroll.Form(turn, n, b)
		if x == api.OK && len(form) == sectors*size {
			return b
		}
		b = b[:len(b)-1]
	}
}

// more are bytes, and one more.
func more(b []byte) []byte { return append(bytes.Clone(b), 7) }

// with is b with other bytes at a place.
func with(b []byte, at int, other ...byte) []byte {
	b = bytes.Clone(b)
	copy(b[at:], other)
	return b
}

// laid is a drum that has these bytes from its first sector on, all sure.
func laid(t *testing.T, sectors int, parts ...[]byte) *drum.Drum {
	t.Helper()
	d := drum.New(sectors)
	if d == nil {
		t.Fatalf("there is no drum of %d sectors", sectors)
	}
	for at, sector := range slices.Collect(slices.Chunk(slices.Concat(parts...), size)) {
		if x := d.Write(at, sector); x != api.OK {
			t.Fatalf("sector %d can't be written: %d", at, x)
		}
	}
	if x := d.Sync(); x != api.OK {
		t.Fatalf("no sync: %d", x)
	}
	return d
}

// bytesOf is all that is read of a drum.
func bytesOf(t *testing.T, d *drum.Drum) []byte {
	t.Helper()
	var b []byte
	for at := range d.Len() {
		sector, x := d.Read(at)
		if x != api.OK {
			t.Fatalf("sector %d can't be read: %d", at, x)
		}
		b = append(b, sector...)
	}
	return b
}

// has must find these bytes on a drum, but for zeros behind them.
func has(t *testing.T, what string, d *drum.Drum, parts ...[]byte) {
	t.Helper()
	want := slices.Concat(parts...)
	want = append(want, make([]byte, d.Len()*size-len(want))...)
	got := bytesOf(t, d)
	for at := range d.Len() {
		if g, w := got[at*size:at*size+size], want[at*size:at*size+size]; !bytes.Equal(g, w) {
			t.Fatalf("%s: sector %d is % x, not % x", what, at, g, w)
		}
	}
}

// alike tells whether two lists of notes are the same.
func alike(a, b [][]byte) bool { return slices.EqualFunc(a, b, bytes.Equal) }

// kept is a chest by the document's words.
type kept struct {
	many, live, turn int
	head             []byte
	notes            [][]byte
}

// fresh is the chest of a drum of so many sectors on which there was none.
func fresh(sectors int) kept { return kept{many: sectors / 2, turn: 1} }

// forms are the bytes with which its live side begins.
func (k *kept) forms() []byte {
	return formsOf(k.turn, slices.Concat([][]byte{k.head}, k.notes)...)
}

// side are the bytes of its live side.
func (k *kept) side() []byte {
	forms := k.forms()
	return append(forms, make([]byte, k.many*size-len(forms))...)
}

func (k *kept) left() int { return k.many - len(k.forms())/size }

// room is how many sectors are left behind a note more, or why there are none.
func (k *kept) room(left, n int, b []byte) (int, api.Errno) {
	form, x := scroll.Form(k.turn, n, b)
	if x == api.OK && len(form)/size > left {
		x = api.ErrFull
	}
	return left - len(form)/size, x
}

func (k *kept) fits(l [][]byte) bool {
	left := k.left()
	for i, b := range l {
		var x api.Errno
		if left, x = k.room(left, 1+len(k.notes)+i, b); x != api.OK {
			return false
		}
	}
	return true
}

// keep and turned are the chest's Keep and Turn, of a drum without a fuse.
func (k *kept) keep(b []byte) api.Errno {
	_, x := k.room(k.left(), 1+len(k.notes), b)
	if x == api.OK {
		k.notes = append(k.notes[:len(k.notes):len(k.notes)], b)
	}
	return x
}

func (k *kept) turned(head []byte) api.Errno {
	form, x := scroll.Form(k.turn+1, 0, head)
	switch {
	case k.turn == highest:
		return api.ErrRange
	case x != api.OK:
		return x
	case len(form)/size > k.many:
		return api.ErrFull
	}
	*k = kept{many: k.many, live: 1 - k.live, turn: k.turn + 1, head: head}
	return api.OK
}

// asked are lists of notes which Fits is asked for.
func (k *kept) asked() [][][]byte {
	long := make([]byte, 66000)
	l := [][][]byte{nil, {nil}, {{}, row(1, 40)}, {row(1, 50), nil}, {row(1, 60)}, {long}, {nil, long}, {nil, nil, nil, nil}}
	if left := k.left(); left > 0 {
		n := 1 + len(k.notes)
		full := filling(k.turn, n, min(left, longest))
		l = append(l, [][]byte{full}, [][]byte{more(full)}, [][]byte{full, nil})
		if left > 1 {
			full = filling(k.turn, n, min(left-1, longest))
			l = append(l, [][]byte{full, row(1, 20)}, [][]byte{more(full), row(1, 20)}, [][]byte{full, row(1, 60)})
		}
	}
	return l
}

// is holds a chest, its drum be on or off, against what has to be there.
func (k *kept) is(t *testing.T, what string, c *chest.Chest) {
	t.Helper()
	if got := c.Head(); !bytes.Equal(got, k.head) {
		t.Fatalf("%s: the head is %.40q, not %.40q", what, got, k.head)
	}
	if got := c.Notes(); !alike(got, k.notes) {
		t.Fatalf("%s: there are %d notes, not %d: %.40q, not %.40q", what, len(got), len(k.notes), got, k.notes)
	}
	if got, want := c.Left(), k.left(); got != want {
		t.Fatalf("%s: %d sectors are left, not %d", what, got, want)
	}
	for _, l := range k.asked() {
		if got, want := c.Fits(l), k.fits(l); got != want {
			t.Fatalf("%s: that %d notes fit is %v, not %v: %.40q", what, len(l), got, want, l)
		}
	}
}

// on holds a chest, and its drum's live side, against what has to be there.
func (k *kept) on(t *testing.T, what string, c *chest.Chest, d *drum.Drum) {
	t.Helper()
	k.is(t, what, c)
	side := bytesOf(t, d)[k.live*k.many*size:][:k.many*size]
	if !bytes.Equal(side, k.side()) {
		t.Fatalf("%s: side %d has other bytes than %d records of turn %d", what, k.live, 1+len(k.notes), k.turn)
	}
}

// opens must open a chest.
func opens(t *testing.T, what string, d *drum.Drum) *chest.Chest {
	t.Helper()
	c, x := chest.Open(d)
	if x != api.OK || c == nil {
		t.Fatalf("%s: a chest: %v, %d", what, c != nil, x)
	}
	return c
}

// unopened must get this error, and no chest.
func unopened(t *testing.T, what string, d *drum.Drum, want api.Errno) {
	t.Helper()
	if c, x := chest.Open(d); x != want || c != nil {
		t.Fatalf("%s: a chest: %v, %d, not %d", what, c != nil, x, want)
	}
}

// keeps, syncs and turns must get this error of the chest's call.
func keeps(t *testing.T, c *chest.Chest, b []byte, want api.Errno) {
	t.Helper()
	if x := c.Keep(b); x != want {
		t.Fatalf("%d bytes are kept: %d, not %d", len(b), x, want)
	}
}

func syncs(t *testing.T, c *chest.Chest, want api.Errno) {
	t.Helper()
	if x := c.Sync(); x != want {
		t.Fatalf("a sync answers %d, not %d", x, want)
	}
}

func turns(t *testing.T, c *chest.Chest, head []byte, want api.Errno) {
	t.Helper()
	if x := c.Turn(head); x != want {
		t.Fatalf("a turn to a head of %d bytes answers %d, not %d", len(head), x, want)
	}
}

// filled is a chest of side 1, turn 2, which has a head and two notes, on a drum
// on which nothing waits; on side 0 is what turn 1 left.
func filled(t *testing.T, sectors int) (*chest.Chest, *drum.Drum, kept) {
	t.Helper()
	d := laid(t, sectors)
	c, k := opens(t, "filled", d), fresh(sectors)
	keeps(t, c, []byte("old"), api.OK)
	for _, x := range []api.Errno{c.Turn([]byte("head")), c.Keep([]byte("one")), c.Keep(row(2, 70)), c.Sync()} {
		if x != api.OK {
			t.Fatalf("it can't be filled: %d", x)
		}
	}
	k = kept{many: k.many, live: 1, turn: 2, head: []byte("head"), notes: [][]byte{[]byte("one"), row(2, 70)}}
	return c, d, k
}

// counts tells how many writes and syncs a call does: with a fuse for each of
// them it must answer ErrCrash, and the power fail.
func counts(t *testing.T, what string, begin func() (*drum.Drum, func() api.Errno)) int {
	t.Helper()
	for n := 1; ; n++ {
		d, call := begin()
		d.Fuse(n)
		switch x := call(); {
		case x == api.ErrCrash && !d.On():
		case x == api.OK && d.On():
			return n - 1
		default:
			t.Fatalf("%s: with a fuse of %d: %d; the power is on: %v", what, n, x, d.On())
		}
	}
}

// The example: a drum of 7 sectors.
func TestExample(t *testing.T) {
	d := laid(t, 7, noise(0), noise(1), noise(2), noise(3), noise(4), noise(5), noise(6))
	c := opens(t, "7 sectors", d)
	side1, last := slices.Concat(noise(3), noise(4), noise(5)), noise(6)
	has(t, "opened", d, formOf(1, 0, nil), zeros(2), side1, last)
	keeps(t, c, []byte("a"), api.OK)
	keeps(t, c, []byte("b"), api.OK)
	keeps(t, c, []byte("c"), api.ErrFull)
	side0 := formsOf(1, nil, []byte("a"), []byte("b"))
	has(t, "kept", d, side0, side1, last)
	turns(t, c, []byte("head"), api.OK)
	has(t, "turned", d, side0, formOf(2, 0, []byte("head")), zeros(2), last)
	keeps(t, c, row(1, 60), api.OK)
	keeps(t, c, nil, api.ErrFull)
	has(t, "turned and kept", d, side0, formsOf(2, []byte("head"), row(1, 60)), last)
	turns(t, c, row(2, 100), api.OK)
	has(t, "turned again", d, formOf(3, 0, row(2, 100)), zeros(1), formsOf(2, []byte("head"), row(1, 60)), last)
}
