package chest_test

import (
	"bytes"
	"fmt"
	"math/rand"
	"slices"
	"testing"

	"seisin/api"
	"seisin/chest"
	"seisin/drum"
)

// P14.2: Head, Notes, Keep, Sync, Left, Fits

func TestKeep(t *testing.T) {
	for _, sectors := range []int{16, 17, 40} {
		d, k := laid(t, sectors, bytes.Repeat(noise(1), sectors)), fresh(sectors)
		last := bytesOf(t, d)[k.many*size:]
		c := opens(t, "keep", d)
		for n := range 60 {
			b := row(n, n*7%150)
			want := k.keep(b)
			keeps(t, c, b, want)
			k.on(t, "kept", c, d)
			has(t, "kept", d, k.side(), last)
		}
		if len(k.notes) < 4 || k.left() > 0 {
			t.Errorf("%d notes, %d left", len(k.notes), k.left())
		}
	}
}

// Notes are told one by one, be they empty, alike or as long as they can be.
func TestNotesAreToldAsTheyAre(t *testing.T) {
	d, k := laid(t, 2*longest+60), fresh(2*longest+60)
	c := opens(t, "notes", d)
	for _, b := range [][]byte{nil, {}, {0}, {0, 0}, nil, []byte("a"), []byte("a"), make([]byte, 200), row(1, 44), filling(1, 10, 2), filling(1, 11, longest/2)} {
		keeps(t, c, b, k.keep(b))
		k.is(t, "notes", c)
	}
	k.on(t, "notes", c, d)
	syncs(t, c, api.OK)
	k.on(t, "notes, anew", opens(t, "notes, anew", d), d)
}

func TestKeepUpToTheEnd(t *testing.T) {
	for left := 1; left < 8; left++ {
		for _, first := range []int{0, 30, 90} {
			sectors := 2 * (1 + left + len(formOf(1, 1, row(1, first)))/size)
			d, k := laid(t, sectors), fresh(sectors)
			c := opens(t, "up to the end", d)
			keeps(t, c, row(1, first), k.keep(row(1, first)))
			full := filling(1, 2, left)
			k.on(t, "up to the end", c, d)
			refused(t, "a sector too many", c, d, k, func() api.Errno { return c.Keep(more(full)) }, api.ErrFull)
			refused(t, "two sectors too many", c, d, k, func() api.Errno { return c.Keep(row(3, len(full)+size+1)) }, api.ErrFull)
			refused(t, "a long one", c, d, k, func() api.Errno { return c.Keep(make([]byte, 66000)) }, api.ErrLong)
			if k.fits([][]byte{more(full)}) || !k.fits([][]byte{full}) {
				t.Fatal("it doesn't just fill the side")
			}
			keeps(t, c, full, k.keep(full))
			k.on(t, "the end", c, d)
			if c.Left() != 0 || !c.Fits(nil) || c.Fits([][]byte{nil}) {
				t.Fatal("there is room at the end")
			}
			refused(t, "no room", c, d, k, func() api.Errno { return c.Keep(nil) }, api.ErrFull)
			refused(t, "no room, and long", c, d, k, func() api.Errno { return c.Keep(make([]byte, 66000)) }, api.ErrLong)
		}
	}
}

// refused must get this error of a call, which leaves all as it was: nothing is
// written or synced, also on a drum that is off, and the chest is used as ever.
func refused(t *testing.T, what string, c *chest.Chest, d *drum.Drum, k kept, call func() api.Errno, want api.Errno) {
	t.Helper()
	before := bytesOf(t, d)
	d.Fuse(1)
	if x := call(); x != want || !d.On() {
		t.Fatalf("%s: %d, not %d; the power is on: %v", what, x, want, d.On())
	}
	d.Fuse(0)
	k.is(t, what, c)
	has(t, what, d, before)
	d.Fail()
	if x := call(); x != want {
		t.Fatalf("%s, off: %d, not %d", what, x, want)
	}
	k.is(t, what+", off", c)
	d.Start(nil)
	has(t, what+", off", d, before)
	if x := c.Sync(); x != api.OK {
		t.Fatalf("%s: the chest isn't used any more: %d", what, x)
	}
}

// A note of the most sectors, where there is room for more.
func TestTheLongestNote(t *testing.T) {
	c, d, k := filled(t, 2*longest+20)
	longer := filling(2, 3, longest)
	refused(t, "a byte more", c, d, k, func() api.Errno { return c.Keep(more(longer)) }, api.ErrLong)
	keeps(t, c, longer, k.keep(longer))
	k.on(t, "the longest", c, d)
	if k.left() != 6 {
		t.Errorf("%d sectors are left", k.left())
	}
}

// A sync makes sure what was kept, and what wasn't synced is sure by nothing else.
func TestSync(t *testing.T) {
	for _, many := range []int{0, 1, 3} {
		for _, since := range []int{0, 1, 2} {
			c, d, k := filled(t, 30)
			for n := range many {
				keeps(t, c, row(n, 20), k.keep(row(n, 20)))
			}
			syncs(t, c, api.OK)
			sure := k
			for n := range since {
				keeps(t, c, row(n, 70), k.keep(row(n, 70)))
			}
			k.on(t, "synced", c, d)
			d.Start(make([]uint8, 20))
			sure.on(t, "synced, anew", opens(t, "synced, anew", d), d)
		}
	}
}

// Whatever is asked, nothing is written by Head, Notes, Left and Fits.
func TestAskingWritesNothing(t *testing.T) {
	c, d, k := filled(t, 20)
	keeps(t, c, nil, k.keep(nil))
	before := bytesOf(t, d)
	d.Fuse(1)
	for range 3 {
		k.is(t, "asked", c)
	}
	if !d.On() {
		t.Fatal("something was written")
	}
	has(t, "asked", d, before)
	d.Fail()
	k.is(t, "asked, off", c)
	d.Start([]uint8{0})
	k.is(t, "asked, on again", c)
	k.notes = k.notes[:2]
	k.on(t, "what wasn't synced", opens(t, "what wasn't synced", d), d)
}

// Keep, Sync and Turn behind errors of the drum

// broken are calls at which the drum fails, with all that they write and sync.
var broken = []struct {
	what string
	call func(c *chest.Chest) api.Errno
	// counts is how many writes and syncs it does.
	counts int
}{
	{"keep an empty one", func(c *chest.Chest) api.Errno { return c.Keep(nil) }, 1},
	{"keep", func(c *chest.Chest) api.Errno { return c.Keep(row(5, 150)) }, 3},
	{"sync", func(c *chest.Chest) api.Errno { return c.Sync() }, 1},
	// On the other side are two sectors of the last turn: so there are two writes
	// of zeros, a sync, and what the head has, and its own sync.
	{"turn to an empty one", func(c *chest.Chest) api.Errno { return c.Turn(nil) }, 5},
	{"turn", func(c *chest.Chest) api.Errno { return c.Turn(row(6, 200)) }, 8},
}

// ends lets the drum fail at a call, over and over, and holds each chest behind
// it against what it was: each further call answers ErrCrash, be it made first or
// behind others, be the power off or on again, and nothing is written.
func ends(t *testing.T, what string, begin func() (*chest.Chest, *drum.Drum, kept), fails func(c *chest.Chest, d *drum.Drum)) {
	t.Helper()
	further := []func(c *chest.Chest, b []byte) api.Errno{
		func(c *chest.Chest, b []byte) api.Errno { return c.Keep(b) },
		func(c *chest.Chest, b []byte) api.Errno { return c.Sync() },
		func(c *chest.Chest, b []byte) api.Errno { return c.Turn(b) },
	}
	for first := range further {
		for _, b := range [][]byte{nil, row(1, 30), make([]byte, 2000), make([]byte, 66000)} {
			for _, on := range []bool{false, true} {
				c, d, k := begin()
				fails(c, d)
				k.is(t, what, c)
				if on {
					d.Start(nil)
					d.Fuse(1)
				}
				for n := range further {
					if x := further[(first+n)%3](c, b); x != api.ErrCrash || d.On() != on {
						t.Fatalf("%s, call %d, %d behind it: %d; the power is on: %v", what, first, n, x, d.On())
					}
					k.is(t, what+", further calls", c)
				}
			}
		}
	}
}

func TestBehindAnErrorOfTheDrum(t *testing.T) {
	begin := func() (*chest.Chest, *drum.Drum, kept) {
		c, d, k := filled(t, 30)
		keeps(t, c, row(4, 20), k.keep(row(4, 20)))
		return c, d, k
	}
	for _, x := range broken {
		for fuse := 1; fuse <= x.counts; fuse++ {
			ends(t, fmt.Sprintf("%s, a fuse of %d", x.what, fuse), begin, func(c *chest.Chest, d *drum.Drum) {
				d.Fuse(fuse)
				if got := x.call(c); got != api.ErrCrash || d.On() {
					t.Fatalf("%s, a fuse of %d: %d", x.what, fuse, got)
				}
			})
		}
		c, d, _ := begin()
		d.Fuse(x.counts + 1)
		if got := x.call(c); got != api.OK || !d.On() {
			t.Fatalf("%s, a fuse beyond: %d", x.what, got)
		}
		syncs(t, c, api.ErrCrash)
	}
}

// The power failed ahead of the call: ErrDown, and then ErrCrash.
func TestBehindADrumThatIsOff(t *testing.T) {
	for _, x := range broken {
		ends(t, x.what+", off", func() (*chest.Chest, *drum.Drum, kept) { return filled(t, 30) }, func(c *chest.Chest, d *drum.Drum) {
			d.Fail()
			if got := x.call(c); got != api.ErrDown {
				t.Fatalf("%s: %d", x.what, got)
			}
		})
	}
}

// The same at the greatest turn, where a Turn is refused: the chest isn't used any
// more, all the same.
func TestBehindAnErrorAtTheGreatestTurn(t *testing.T) {
	begin := func() (*chest.Chest, *drum.Drum, kept) {
		d := laid(t, 30, formOf(highest, 0, []byte("head")))
		c := opens(t, "the greatest turn", d)
		turns(t, c, nil, api.ErrRange)
		return c, d, kept{many: 15, turn: highest, head: []byte("head")}
	}
	for _, x := range broken[:3] {
		for fuse := 1; fuse <= x.counts; fuse++ {
			ends(t, x.what+", the greatest turn", begin, func(c *chest.Chest, d *drum.Drum) {
				d.Fuse(fuse)
				if got := x.call(c); got != api.ErrCrash {
					t.Fatalf("%s: %d", x.what, got)
				}
			})
		}
	}
}

// Another chest on the same drum is used as ever.
func TestTwoChestsOnADrum(t *testing.T) {
	c, d, k := filled(t, 30)
	d.Fail()
	keeps(t, c, nil, api.ErrDown)
	d.Start(nil)
	other := opens(t, "the other one", d)
	keeps(t, other, []byte("b"), api.OK)
	syncs(t, other, api.OK)
	syncs(t, c, api.ErrCrash)
	k.is(t, "the one", c)
	k.keep([]byte("b"))
	k.on(t, "the other one", other, d)
}

// All calls, in any order, without errors of the drum.
func TestRowsOfCalls(t *testing.T) {
	fulls, turned := 0, 0
	for seed := range 150 {
		r := rand.New(rand.NewSource(int64(seed)))
		sectors := 2 + r.Intn(40)
		d := laid(t, sectors, someBytes(r, sectors))
		k := keptOn(t, d)
		c := opens(t, "a row of calls", d)
		whole := bytesOf(t, d)
		for n := range 40 {
			b := row(n, r.Intn(130))
			if r.Intn(6) == 0 {
				b = row(n, r.Intn(sectors*size))
			}
			switch r.Intn(10) {
			case 0, 1:
				want := k.turned(b)
				turns(t, c, b, want)
				turned++
			case 2:
				syncs(t, c, api.OK)
			case 3:
				c = opens(t, "a row of calls, anew", d)
			default:
				want := k.keep(b)
				keeps(t, c, b, want)
				if want == api.ErrFull {
					fulls++
				}
			}
			k.on(t, "a row of calls", c, d)
			whole = with(whole, k.live*k.many*size, k.side()...)
			has(t, "a row of calls", d, whole)
		}
	}
	if fulls < 300 || turned < 500 {
		t.Errorf("%d were full, %d turns", fulls, turned)
	}
}

// Memory (R4)

func TestWhatWasKeptMayBeChanged(t *testing.T) {
	c, d, k := filled(t, 30)
	whole := row(1, 300)
	b := whole[50:150]
	keeps(t, c, b, k.keep(row(1, 300)[50:150]))
	keeps(t, c, whole[:0], k.keep(nil))
	c.Fits([][]byte{b, whole})
	if !bytes.Equal(whole, row(1, 300)) {
		t.Fatal("what was given has changed")
	}
	clear(whole)
	k.on(t, "given and changed", c, d)
	keeps(t, c, b, k.keep(make([]byte, 100)))
	copy(whole, row(9, 300))
	syncs(t, c, api.OK)
	copy(whole, row(8, 300))
	k.on(t, "synced, given and changed", c, d)
	k.on(t, "synced, given and changed, anew", opens(t, "anew", d), d)
}

func TestWhatWasTurnedToMayBeChanged(t *testing.T) {
	c, d, k := filled(t, 30)
	whole := row(1, 300)
	head := whole[50:150]
	turns(t, c, head, k.turned(row(1, 300)[50:150]))
	if !bytes.Equal(whole, row(1, 300)) {
		t.Fatal("what was given has changed")
	}
	clear(whole)
	k.on(t, "given and changed", c, d)
	turns(t, c, head, k.turned(make([]byte, 100)))
	copy(whole, row(9, 300))
	k.on(t, "given and changed again", c, d)
	k.on(t, "given and changed, anew", opens(t, "anew", d), d)
}

// spoil writes over all of what a chest answers, and behind it.
func spoil(c *chest.Chest) {
	head, l := c.Head(), c.Notes()
	for _, b := range append([][]byte{head}, l...) {
		for i := range b {
			b[i] = 0xee
		}
		b = append(b, row(9, 300)...)
		clear(b[:cap(b)])
	}
	for i := range l {
		l[i] = []byte("other")
	}
	l = append(l, []byte("more"), []byte("more"))
	slices.Reverse(l)
}

func TestWhatIsAnsweredMayBeChanged(t *testing.T) {
	c, d, k := filled(t, 40)
	for n := range 6 {
		spoil(c)
		k.on(t, "spoilt", c, d)
		keeps(t, c, row(n, 30*n), k.keep(row(n, 30*n)))
		spoil(c)
		k.on(t, "kept and spoilt", c, d)
	}
	syncs(t, c, api.OK)
	c = opens(t, "anew", d)
	spoil(c)
	k.on(t, "opened and spoilt", c, d)
	keeps(t, c, nil, k.keep(nil))
	k.on(t, "opened, spoilt and kept", c, d)
	turns(t, c, row(1, 100), k.turned(row(1, 100)))
	spoil(c)
	k.on(t, "turned and spoilt", c, d)
	k.on(t, "turned and spoilt, anew", opens(t, "anew", d), d)
}

// What was answered isn't changed by what the chest does then.
func TestWhatWasAnsweredStays(t *testing.T) {
	c, _, k := filled(t, 40)
	head, l := c.Head(), c.Notes()
	first, second := c.Notes(), c.Notes()
	for _, b := range first {
		clear(b)
	}
	keeps(t, c, []byte("more"), api.OK)
	turns(t, c, []byte("next"), api.OK)
	keeps(t, c, []byte("other"), api.OK)
	if !bytes.Equal(head, k.head) || !alike(l, k.notes) || !alike(second, k.notes) {
		t.Errorf("%q, %q, %q", head, l, second)
	}
}

// No two lists of one answer share memory.
func TestNotesShareNoMemory(t *testing.T) {
	c, _, k := filled(t, 40)
	for _, b := range [][]byte{nil, []byte("a"), []byte("b"), nil} {
		keeps(t, c, b, k.keep(b))
	}
	for i := range k.notes {
		l := c.Notes()
		_ = append(l[i], row(9, 100)...)
		clear(l[i])
		l[i] = k.notes[i]
		if !alike(l, k.notes) {
			t.Errorf("with note %d others have changed: %q", i, l)
		}
	}
}
