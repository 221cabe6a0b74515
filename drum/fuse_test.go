package drum_test

import (
	"math"
	"testing"

	"seisin/api"
	"seisin/drum"
)

// P12.1: Fuse

func TestNoFuse(t *testing.T) {
	for _, n := range []int{0, -1, -2, -64, -1 << 32, math.MinInt, math.MinInt + 1} {
		d := fresh(t, 2)
		d.Fuse(n)
		for k := range 20 {
			write(t, d, k%2, told(k), api.OK)
			sync(t, d, api.OK)
		}
		on(t, d, true)
	}
}

func TestNoFuseTakesTheFuseAway(t *testing.T) {
	for _, n := range []int{0, -1, math.MinInt} {
		d := fresh(t, 1)
		d.Fuse(2)
		write(t, d, 0, told(1), api.OK)
		d.Fuse(n)
		for range 5 {
			sync(t, d, api.OK)
			write(t, d, 0, told(2), api.OK)
		}
		on(t, d, true)
	}
}

// kinds are what counts for a fuse.
var kinds = []struct {
	what string
	do   func(d *drum.Drum) api.Errno
}{
	{"write", func(d *drum.Drum) api.Errno { return d.Write(0, told(5)) }},
	{"sync", func(d *drum.Drum) api.Errno { return d.Sync() }},
}

// The fuse ends at its n-th Write or Sync, be the ones ahead of it what they may.
func TestFuseEnds(t *testing.T) {
	for n := 1; n <= 7; n++ {
		for row := range 1 << n {
			d := fresh(t, 1)
			d.Fuse(n)
			for k := range n - 1 {
				if c := kinds[row>>k&1]; c.do(d) != api.OK || !d.On() {
					t.Fatalf("a fuse of %d ends at the %s %d of row %b", n, c.what, k+1, row)
				}
			}
			if c := kinds[row>>(n-1)&1]; c.do(d) != api.ErrCrash || d.On() {
				t.Fatalf("a fuse of %d doesn't end at the %s %d of row %b", n, c.what, n, row)
			}
			for _, c := range kinds {
				if got := c.do(d); got != api.ErrDown || d.On() {
					t.Fatalf("behind the fuse a %s answers %d", c.what, got)
				}
			}
			unread(t, d, 0, api.ErrDown)
		}
	}
}

func TestGreatFuses(t *testing.T) {
	for _, n := range []int{1001, 1 << 16, 1<<32 + 1, 1 << 33, math.MaxInt32 + 2, math.MaxInt - 1, math.MaxInt} {
		d := fresh(t, 1)
		d.Fuse(n)
		for k := range 500 {
			write(t, d, 0, told(k), api.OK)
			sync(t, d, api.OK)
		}
	}
	d := fresh(t, 1)
	d.Fuse(1001)
	for k := range 500 {
		write(t, d, 0, told(k), api.OK)
		sync(t, d, api.OK)
	}
	write(t, d, 0, told(1), api.ErrCrash)
}

// What ends a fuse doesn't happen: the write isn't there, nor does it wait.
func TestFuseEndsAtAWrite(t *testing.T) {
	for _, masks := range [][]uint8{nil, {}, {0xff}, {0xff, 0xff}, {0xff, 0xff, 0xff}} {
		d := fresh(t, 2)
		write(t, d, 0, told(1), api.OK)
		sync(t, d, api.OK)
		d.Fuse(2)
		write(t, d, 1, told(2), api.OK)
		write(t, d, 0, told(3), api.ErrCrash)
		d.Start(masks)
		reads(t, "crashed", d, 0, told(1))
		reads(t, "written ahead", d, 1, told(2))
	}
}

// The write that ends a fuse has no mask: those of the others are theirs still.
func TestFusesWriteHasNoMask(t *testing.T) {
	d := fresh(t, 3)
	write(t, d, 0, told(1), api.OK)
	write(t, d, 1, told(2), api.OK)
	d.Fuse(1)
	write(t, d, 2, told(3), api.ErrCrash)
	d.Start([]uint8{0xff, 0x00, 0xff})
	reads(t, "first", d, 0, told(1))
	reads(t, "second", d, 1, filled(0))
	reads(t, "crashed", d, 2, filled(0))
	write(t, d, 1, told(4), api.OK)
	d.Start([]uint8{0xff, 0xff})
	reads(t, "first", d, 0, told(1))
	reads(t, "second", d, 1, told(4))
	reads(t, "crashed", d, 2, filled(0))
}

// What waited at the Sync that ends a fuse waits still.
func TestFuseEndsAtASync(t *testing.T) {
	for mask := range 256 {
		d, v := fresh(t, 2), deviceOf(2)
		for k := range 2 {
			write(t, d, k, told(k+1), v.write(k, told(k+1)))
		}
		sync(t, d, v.sync())
		write(t, d, 1, told(3), v.write(1, told(3)))
		d.Fuse(1)
		sync(t, d, api.ErrCrash)
		d.Start([]uint8{uint8(mask)})
		v.start([]uint8{uint8(mask)})
		same(t, "crashed at a sync", d, v)
	}
}

// Only a Write or Sync that has none of the other errors counts.
func TestWhatDoesNotCount(t *testing.T) {
	for _, n := range []int{1, 2, 3} {
		d := fresh(t, 2)
		d.Fuse(n)
		idle := func() {
			t.Helper()
			for range 5 {
				for _, at := range oddSectors(2) {
					write(t, d, at, told(1), api.ErrRange)
					unread(t, d, at, api.ErrRange)
				}
				for _, size := range oddSizes {
					write(t, d, 1, make([]byte, size), api.ErrArg)
				}
				write(t, d, 2, nil, api.ErrRange)
				d.Read(0)
				d.Len()
				on(t, d, true)
			}
		}
		for k := range n - 1 {
			idle()
			write(t, d, k%2, told(2), api.OK)
		}
		idle()
		sync(t, d, api.ErrCrash)
	}
}

func TestALaterFuseHolds(t *testing.T) {
	d := fresh(t, 1)
	d.Fuse(1)
	d.Fuse(3)
	write(t, d, 0, told(1), api.OK)
	sync(t, d, api.OK)
	d.Fuse(2)
	sync(t, d, api.OK)
	write(t, d, 0, told(2), api.ErrCrash)
	d.Start(nil)
	d.Fuse(5)
	d.Fuse(1)
	write(t, d, 0, told(2), api.ErrCrash)
}

// Behind a Start there is no fuse, be it ended or not, and set when it may.
func TestStartTakesTheFuseAway(t *testing.T) {
	for _, c := range []struct {
		what string
		do   func(d *drum.Drum)
	}{
		{"ended", func(d *drum.Drum) { d.Fuse(1); d.Sync() }},
		{"not ended, failed", func(d *drum.Drum) { d.Fuse(1); d.Fail() }},
		{"not ended, on", func(d *drum.Drum) { d.Fuse(2); d.Sync() }},
		{"set while it is off", func(d *drum.Drum) { d.Fail(); d.Fuse(1) }},
		{"set again while it is off", func(d *drum.Drum) { d.Fuse(1); d.Sync(); d.Fuse(2); d.Sync(); d.Fuse(1) }},
	} {
		d := fresh(t, 1)
		c.do(d)
		d.Start(nil)
		for k := range 20 {
			if d.Write(0, told(k)) != api.OK || d.Sync() != api.OK {
				t.Fatalf("%s: there is a fuse behind a start", c.what)
			}
		}
	}
}
