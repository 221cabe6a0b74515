package chest_test

import (
	"bytes"
	"fmt"
	"testing"

	"seisin/api"
	"seisin/drum"
)

// P14.2: Turn

// A head comes to the other side, with the next turn; what stood there is gone,
// and what stood on this side stays.
func TestTurn(t *testing.T) {
	for _, sectors := range []int{10, 11} {
		d := laid(t, sectors, bytes.Repeat(noise(1), sectors))
		k := fresh(sectors)
		c := opens(t, "turn", d)
		whole := with(bytesOf(t, d), 0, k.side()...)
		for n := range 20 {
			for m := range n % 4 {
				keeps(t, c, row(m, n*5), k.keep(row(m, n*5)))
			}
			whole = with(whole, k.live*k.many*size, k.side()...)
			has(t, "kept", d, whole)
			head := row(n, n*11)
			turns(t, c, head, k.turned(head))
			k.on(t, "turned", c, d)
			whole = with(whole, k.live*k.many*size, k.side()...)
			has(t, "turned", d, whole)
			d.Start([]uint8{0, 0, 0, 0, 0, 0, 0, 0, 0, 0})
			has(t, "turned, synced", d, whole)
			if n%3 == 0 {
				c = opens(t, "turned, anew", d)
				k.on(t, "turned, anew", c, d)
			}
		}
		if k.turn != 21 || k.live != 0 {
			t.Errorf("turn %d on side %d", k.turn, k.live)
		}
	}
}

// What was kept, but not synced, may be gone behind a Turn: and so is all of it.
func TestTurnForgetsTheNotes(t *testing.T) {
	c, d, k := filled(t, 20)
	keeps(t, c, []byte("not synced"), api.OK)
	turns(t, c, nil, k.turned(nil))
	k.on(t, "turned", c, d)
	keeps(t, c, []byte("first"), k.keep([]byte("first")))
	k.on(t, "turned and kept", c, d)
	syncs(t, c, api.OK)
	d.Start([]uint8{0})
	k.on(t, "turned and kept, anew", opens(t, "anew", d), d)
}

// A head has as many sectors as a side, or one more.
func TestAHeadAsLongAsASide(t *testing.T) {
	for _, sectors := range []int{2, 3, 4, 5, 8, 9, 30, 31} {
		d := laid(t, sectors)
		k := fresh(sectors)
		c := opens(t, "as long as a side", d)
		for range 4 {
			full := filling(k.turn+1, 0, k.many)
			refused(t, "a sector too many", c, d, k, func() api.Errno { return c.Turn(more(full)) }, api.ErrFull)
			refused(t, "far too many", c, d, k, func() api.Errno { return c.Turn(make([]byte, 60000)) }, api.ErrFull)
			refused(t, "a long one", c, d, k, func() api.Errno { return c.Turn(make([]byte, 66000)) }, api.ErrLong)
			turns(t, c, full, k.turned(full))
			k.on(t, "as long as a side", c, d)
			if c.Left() != 0 || c.Fits([][]byte{nil}) {
				t.Fatal("there is room behind it")
			}
			keeps(t, c, nil, api.ErrFull)
			k.on(t, "as long as a side, anew", opens(t, "anew", d), d)
		}
	}
}

// A head of 1,024 sectors, and one byte more: on sides that have more room, just
// as much, one sector less.
func TestTheLongestHead(t *testing.T) {
	for _, many := range []int{longest - 1, longest, longest + 1, most / 2} {
		c, d, k := filled(t, 2*many)
		head := filling(3, 0, longest)
		refused(t, "a byte more", c, d, k, func() api.Errno { return c.Turn(more(head)) }, api.ErrLong)
		if many < longest {
			refused(t, "longer than a side", c, d, k, func() api.Errno { return c.Turn(head) }, api.ErrFull)
			continue
		}
		turns(t, c, head, k.turned(head))
		k.on(t, "the longest", c, d)
		if k.left() != many-longest {
			t.Errorf("%d sectors are left of %d", k.left(), many)
		}
		k.on(t, "the longest, anew", opens(t, "anew", d), d)
	}
}

// The turn ends at 2^40, on whatever side; notes are kept there as ever.
func TestTheGreatestTurn(t *testing.T) {
	for live := range 2 {
		d := laid(t, 11, zeros(5*live), formOf(highest-2, 0, []byte("head")))
		k := kept{many: 5, live: live, turn: highest - 2, head: []byte("head")}
		c := opens(t, "ahead of the greatest turn", d)
		for k.turn < highest {
			refused(t, "a long one", c, d, k, func() api.Errno { return c.Turn(make([]byte, 66000)) }, api.ErrLong)
			refused(t, "longer than a side", c, d, k, func() api.Errno { return c.Turn(make([]byte, 400)) }, api.ErrFull)
			turns(t, c, []byte("next"), k.turned([]byte("next")))
			k.on(t, "towards the greatest turn", c, d)
		}
		for _, many := range []int{0, 4, 300, 400, 60000, 66000} {
			refused(t, "the greatest turn", c, d, k, func() api.Errno { return c.Turn(make([]byte, many)) }, api.ErrRange)
		}
		keeps(t, c, []byte("kept"), k.keep([]byte("kept")))
		syncs(t, c, api.OK)
		refused(t, "the greatest turn, kept", c, d, k, func() api.Errno { return c.Turn(nil) }, api.ErrRange)
		k.on(t, "the greatest turn", c, d)
		c = opens(t, "the greatest turn, anew", d)
		k.on(t, "the greatest turn, anew", c, d)
		refused(t, "the greatest turn, anew", c, d, k, func() api.Errno { return c.Turn(nil) }, api.ErrRange)
	}
}

// How many writes and syncs a Turn does: of what isn't zeros on the other side,
// of its sync if there is any, of the head, of its sync.
func TestWhatATurnWrites(t *testing.T) {
	for _, behind := range [][]byte{nil, noise(1), append(zeros(6), noise(1)...), bytes.Repeat(noise(2), 7), formsOf(1, nil, row(1, 90), nil)} {
		for _, head := range [][]byte{nil, row(1, 60), filling(6, 0, 7)} {
			want := wiped(behind) + len(formOf(6, 0, head))/size + 1
			if wiped(behind) > 0 {
				want++
			}
			what := fmt.Sprintf("%d sectors behind, a head of %d bytes", wiped(behind), len(head))
			got := counts(t, what, func() (*drum.Drum, func() api.Errno) {
				d := laid(t, 15, formOf(5, 0, []byte("head")), zeros(6), behind)
				c := opens(t, what, d)
				return d, func() api.Errno { return c.Turn(head) }
			})
			if got != want {
				t.Errorf("%s: %d writes and syncs, not %d", what, got, want)
			}
		}
	}
}

// Behind a refused Turn all is as it was: notes are kept behind the others.
func TestKeepBehindARefusedTurn(t *testing.T) {
	c, d, k := filled(t, 20)
	for n, head := range [][]byte{make([]byte, 66000), make([]byte, 700)} {
		turns(t, c, head, []api.Errno{api.ErrLong, api.ErrFull}[n])
		keeps(t, c, row(n, 9), k.keep(row(n, 9)))
		k.on(t, "refused and kept", c, d)
	}
	syncs(t, c, api.OK)
	k.on(t, "refused and kept, anew", opens(t, "anew", d), d)
}
