package chest_test

import (
	"bytes"
	"fmt"
	"math/rand"
	"testing"

	"seisin/api"
	"seisin/chest"
	"seisin/drum"
	"seisin/scroll"
)

// P14.3

// book is what a chest was given, by the document's words: what has to be there
// behind a Start and an Open, and what may be there in its place.
type book struct {
	head        []byte
	sure, since [][]byte
	// next is the head of a Turn that didn't come to its end, if turning.
	turning bool
	next    []byte
}

// all are the notes that are there while the power doesn't fail.
func (k *book) all() [][]byte { return append(k.sure[:len(k.sure):len(k.sure)], k.since...) }

// may tells whether this may be there behind a Start.
func (k *book) may(head []byte, notes [][]byte) bool {
	if k.turning && bytes.Equal(head, k.next) && len(notes) == 0 {
		return true
	}
	all := k.all()
	return bytes.Equal(head, k.head) && len(notes) >= len(k.sure) && len(notes) <= len(all) && alike(notes, all[:len(notes)])
}

// call is one of a chest's calls.
type call struct {
	do byte
	b  []byte
}

const (
	opening = 'o'
	keeping = 'k'
	syncing = 's'
	turning = 't'
)

// keeper makes a chest's calls, and keeps book of them.
type keeper struct {
	t *testing.T
	d *drum.Drum
	c *chest.Chest
	k book
}

// do makes a call, and answers whether it came to its end; if not, the power
// failed, by a fuse.
func (k *keeper) do(x call) bool {
	k.t.Helper()
	var e api.Errno
	switch x.do {
	case opening:
		k.c, e = chest.Open(k.d)
	case keeping:
		e = k.c.Keep(x.b)
		if e == api.OK || e == api.ErrCrash {
			// As much of it as was written may yet be all that isn't zeros.
			k.k.since = append(k.k.since, x.b)
		}
	case syncing:
		if e = k.c.Sync(); e == api.OK {
			k.k.sure, k.k.since = k.k.all(), nil
		}
	case turning:
		switch e = k.c.Turn(x.b); e {
		case api.OK:
			k.k = book{head: x.b}
		case api.ErrCrash:
			k.k.turning, k.k.next = true, x.b
		}
	}
	if e == api.ErrCrash && !k.d.On() {
		return false
	}
	if e != api.OK && e != api.ErrFull || !k.d.On() {
		k.t.Fatalf("call %c with %d bytes answers %d", x.do, len(x.b), e)
	}
	return true
}

// again opens a chest on a drum that was started anew, and holds it against the
// book.
func (k *keeper) again(what string) bool {
	k.t.Helper()
	if !k.do(call{do: opening}) {
		return false
	}
	head, notes := k.c.Head(), k.c.Notes()
	if !k.k.may(head, notes) {
		k.t.Fatalf("%s: a head of %d bytes and %d notes; %d were sure, %d since, turning: %v", what, len(head), len(notes), len(k.k.sure), len(k.k.since), k.k.turning)
	}
	// What is there now is sure.
	k.k = book{head: head, sure: notes}
	return true
}

// told holds what is there, without an error, against the book.
func (k *keeper) told(what string) {
	k.t.Helper()
	if head, notes := k.c.Head(), k.c.Notes(); !bytes.Equal(head, k.k.head) || !alike(notes, k.k.all()) {
		k.t.Fatalf("%s: a head of %d bytes and %d notes, not %d and %d", what, len(head), len(notes), len(k.k.head), len(k.k.all()))
	}
}

// calls are a chest's ordinary life: with heads and notes of one sector and of
// more, of zeros too, on both sides.
func calls() []call {
	zero := make([]byte, 90)
	return []call{
		{opening, nil},
		{keeping, row(1, 9)}, {keeping, row(2, 70)}, {syncing, nil}, {keeping, zero}, {keeping, nil},
		{turning, row(3, 80)},
		{keeping, row(4, 20)}, {syncing, nil}, {keeping, row(5, 90)}, {keeping, row(6, 10)},
		{turning, zero},
		{keeping, nil}, {keeping, row(7, 100)}, {syncing, nil}, {syncing, nil}, {keeping, []byte("last")},
		{turning, nil},
		{opening, nil},
		{keeping, row(8, 30)}, {turning, row(9, 200)}, {keeping, row(10, 11)}, {syncing, nil},
	}
}

// run makes the calls up to the one at which the power fails; it answers false, if
// it doesn't.
func (k *keeper) run(l []call) bool {
	k.t.Helper()
	for _, x := range l {
		if !k.do(x) {
			return true
		}
		k.told("while it is on")
	}
	return false
}

// goes lets a chest be, till a fuse ends; it answers nil, if the fuse is beyond.
func goes(t *testing.T, sectors, fuse int, before []byte) *keeper {
	t.Helper()
	k := &keeper{t: t, d: laid(t, sectors, before)}
	k.d.Fuse(fuse)
	if !k.run(calls()) {
		return nil
	}
	return k
}

// drums are what is on a drum ahead of the first Open.
func drums(sectors int) [][]byte {
	return [][]byte{
		nil,
		bytes.Repeat(noise(1), sectors),
		formsOf(0, nil, []byte("of turn 0")),
	}
}

// The power fails at each write and each sync of Open, Keep, Sync and Turn, and
// comes back with each mask for all that waits.
func TestAFuseAtEachCall(t *testing.T) {
	for _, sectors := range []int{22, 23} {
		for n, before := range drums(sectors) {
			// All masks once: what is there ahead of it all matters at the first Open
			// alone.
			fuses, step := 0, 17
			if sectors == 22 && n == 0 {
				step = 1
			}
			for fuse := 1; ; fuse++ {
				k := goes(t, sectors, fuse, before)
				if k == nil {
					break
				}
				for mask := 0; mask < 256; mask += step {
					if mask > 0 {
						k = goes(t, sectors, fuse, before)
					}
					k.d.Start(bytes.Repeat([]byte{uint8(mask)}, 40))
					k.again(fmt.Sprintf("a fuse of %d, masks of %d", fuse, mask))
					k.lives()
				}
				fuses++
			}
			if fuses < 50 {
				t.Errorf("the calls have %d writes and syncs", fuses)
			}
		}
	}
}

// lives lets a chest go on that was opened anew, and opens it once more.
func (k *keeper) lives() {
	k.t.Helper()
	k.run([]call{{keeping, []byte("a")}, {syncing, nil}, {keeping, row(1, 70)}})
	k.d.Start([]uint8{0xfe, 0})
	k.again("once more")
	k.run([]call{{turning, []byte("head")}, {keeping, nil}})
	k.d.Start([]uint8{0})
	k.again("once more, turned")
	k.told("once more, turned")
}

// Of what waits each write has a mask of its own.
func TestMasksOfTheirOwn(t *testing.T) {
	r := rand.New(rand.NewSource(14))
	for fuse := 1; ; fuse++ {
		if goes(t, 23, fuse, nil) == nil {
			break
		}
		for range 200 {
			k := goes(t, 23, fuse, nil)
			k.d.Start(masks(r))
			k.again(fmt.Sprintf("a fuse of %d", fuse))
		}
	}
}

// masks are any masks, of which many let all land, or nothing, or nearly all.
func masks(r *rand.Rand) []uint8 {
	l := make([]uint8, r.Intn(20))
	for i := range l {
		l[i] = []uint8{0, 255, 255, 255, uint8(r.Intn(256)), uint8(255 &^ (1 << r.Intn(8)))}[r.Intn(6)]
	}
	return l
}

// The power fails again while the chest is opened anew, at each write and sync.
func TestAFuseAtOpenBehindAFuse(t *testing.T) {
	seconds := 0
	for fuse := 1; goes(t, 22, fuse, nil) != nil; fuse++ {
		for _, first := range []uint8{0, 1, 0x0f, 0x7f, 0xfe, 0xf0, 255} {
			for _, second := range []uint8{0, 0x0f, 0xfe, 255} {
				for again := 1; ; again++ {
					k := goes(t, 22, fuse, nil)
					k.d.Start(bytes.Repeat([]byte{first}, 40))
					k.d.Fuse(again)
					what := fmt.Sprintf("a fuse of %d, and of %d, masks of %d and %d", fuse, again, first, second)
					if k.again(what) {
						break
					}
					seconds++
					k.d.Start(bytes.Repeat([]byte{second}, 40))
					k.again(what)
				}
			}
		}
	}
	if seconds < 1000 {
		t.Errorf("the power failed %d times while a chest was opened anew", seconds)
	}
}

// The power fails between the calls.
func TestTheFailingBetweenCalls(t *testing.T) {
	l := calls()
	for n := 1; n <= len(l); n++ {
		for mask := range 256 {
			k := &keeper{t: t, d: laid(t, 22)}
			if k.run(l[:n]) {
				t.Fatal("the power failed")
			}
			if mask%2 == 0 {
				k.d.Fail()
			}
			since := len(k.k.since)
			k.d.Start(bytes.Repeat([]byte{uint8(mask)}, 40))
			k.again(fmt.Sprintf("behind %d calls, masks of %d", n, mask))
			// Where nothing waited, all is there, whatever the mask.
			if since == 0 {
				k.told("nothing waited")
			}
		}
	}
}

// Each mask of a head that is put: it is there whole, or the old one is.
func TestEachMaskOfATurn(t *testing.T) {
	for _, head := range [][]byte{row(1, 40), row(2, 100)} {
		olds, news := 0, 0
		sectors := len(formOf(3, 0, head)) / size
		for mask := range 256 {
			for _, other := range []uint8{0, uint8(mask), 255} {
				c, d, k := filled(t, 20)
				// The other side's two sectors, their sync, and the head: its sync fails.
				d.Fuse(3 + sectors + 1)
				turns(t, c, head, api.ErrCrash)
				l := []uint8{uint8(mask), other}
				d.Start(l)
				want := k
				if landed(formOf(3, 0, head), l) {
					want.turned(head)
					news++
				} else {
					olds++
				}
				want.on(t, "a mask of a turn", opens(t, "a mask of a turn", d), d)
			}
		}
		if olds == 0 || news == 0 {
			t.Errorf("%d times the old head was there, %d times the new one", olds, news)
		}
	}
}

// landed tells whether a form stands whole of which these words landed on zeros.
func landed(form []byte, masks []uint8) bool {
	for i, x := range form {
		if x != 0 && masks[i/size]&(1<<(i%size/8)) == 0 {
			return false
		}
	}
	return true
}

// While the other side is made blank, what lands there tells nothing: its old
// head, with its notes, is of a lesser turn.
func TestEachMaskOfABlankSide(t *testing.T) {
	for fuse := 1; fuse <= 3; fuse++ {
		for first := range 256 {
			for _, second := range []uint8{0, 1, 0x55, 0xfe, 255} {
				c, d, k := filled(t, 20)
				d.Fuse(fuse)
				turns(t, c, []byte("next"), api.ErrCrash)
				d.Start([]uint8{uint8(first), second})
				k.on(t, "a mask of a blank side", opens(t, "a mask of a blank side", d), d)
			}
		}
	}
}

// Notes that wait and a Turn that doesn't come to its end: the notes that are there
// have no gap.
func TestNotesThatWaitBehindATurn(t *testing.T) {
	l := [][]byte{row(1, 3), row(2, 30), row(3, 20)}
	for set := range 1 << len(l) {
		c, d, k := filled(t, 30)
		for _, b := range l {
			keeps(t, c, b, api.OK)
		}
		d.Fuse(3)
		turns(t, c, []byte("next"), api.ErrCrash)
		front, masks := true, []uint8{}
		for n, b := range l {
			lands := set&(1<<n) != 0
			masks = append(masks, map[bool]uint8{true: 255, false: 0x7e}[lands])
			if front = front && lands; front {
				k.keep(b)
			}
		}
		d.Start(masks)
		k.on(t, "notes that wait", opens(t, "notes that wait", d), d)
	}
}

// A row of calls of any kind, whose power fails at any write and sync and between
// calls, and at whose Open it fails too.
func TestWhateverThePowerDoes(t *testing.T) {
	fails, turned, most := 0, 0, 0
	for seed := range 400 {
		r := rand.New(rand.NewSource(int64(seed)))
		sectors := 4 + r.Intn(40)
		k := &keeper{t: t, d: laid(t, sectors)}
		k.do(call{do: opening})
		for n := range 120 {
			up := true
			switch c := r.Intn(20); {
			case c < 11:
				up = k.do(call{keeping, somewhatZero(r, n)})
			case c < 14:
				up = k.do(call{syncing, nil})
			case c < 16:
				up = k.do(call{turning, somewhatZero(r, n)})
				turned++
			case c < 17:
				k.d.Fail()
				up = false
			case c < 18:
				up = false
			default:
				k.d.Fuse(1 + r.Intn(12))
			}
			for !up {
				fails++
				k.d.Start(masks(r))
				k.d.Fuse(r.Intn(10))
				up = k.again(fmt.Sprintf("row %d, call %d", seed, n))
			}
			k.told("while it is on")
			most = max(most, len(k.k.sure))
			k.other()
		}
	}
	if fails < 5000 || turned < 2000 || most < 10 {
		t.Errorf("the power failed %d times, %d turns, %d notes were sure", fails, turned, most)
	}
}

// somewhatZero are bytes of which many are zeros.
func somewhatZero(r *rand.Rand, n int) []byte {
	b := row(n, r.Intn(180))
	for range r.Intn(3) {
		if len(b) > 0 {
			at := r.Intn(len(b))
			clear(b[at:min(len(b), at+60)])
		}
	}
	return b
}

// other holds both sides' turns against one another: the live one has the greater
// turn, by one at most, or the other one has none.
func (k *keeper) other() {
	k.t.Helper()
	many := k.d.Len() / 2
	a, _, inA := scroll.Peek(k.d, 0, many)
	b, _, inB := scroll.Peek(k.d, many, many)
	if !inA && !inB || inA && inB && a-b != 1 && b-a != 1 {
		k.t.Fatalf("turn %d (%v) stands beside turn %d (%v)", a, inA, b, inB)
	}
}
