package drum_test

import (
	"bytes"
	"math/rand"
	"slices"
	"testing"

	"seisin/api"
	"seisin/drum"
)

// torn is a sector of which the words of the mask's bits are of one, and the
// others of another.
func torn(mask uint8, from, under []byte) []byte {
	b := bytes.Clone(under)
	for n := range words {
		if mask&(1<<n) != 0 {
			copy(word(b, n), word(from, n))
		}
	}
	return b
}

// P12.1: Fail, Start

func TestExample(t *testing.T) {
	d := fresh(t, 1)
	write(t, d, 0, filled(0xff), api.OK)
	d.Start([]uint8{5})
	b, x := d.Read(0)
	if x != api.OK || len(b) != size {
		t.Fatal(b, x)
	}
	for i := range b {
		want := byte(0)
		if i <= 7 || i >= 16 && i <= 23 {
			want = 0xff
		}
		if b[i] != want {
			t.Errorf("byte %d is %x, not %x", i, b[i], want)
		}
	}
}

func TestFail(t *testing.T) {
	d := fresh(t, 2)
	write(t, d, 0, told(1), api.OK)
	for range 3 {
		d.Fail()
		on(t, d, false)
		unread(t, d, 0, api.ErrDown)
		write(t, d, 0, told(2), api.ErrDown)
		sync(t, d, api.ErrDown)
		if d.Len() != 2 {
			t.Fatalf("a drum that is off has %d sectors", d.Len())
		}
	}
	d.Start(nil)
	on(t, d, true)
	reads(t, "started", d, 0, told(1))
	write(t, d, 0, told(2), api.OK)
	reads(t, "written", d, 0, told(2))
	sync(t, d, api.OK)
}

// fails are the ways in which a drum comes to a Start, all of which are alike.
var fails = []struct {
	what string
	do   func(d *drum.Drum)
}{
	{"on", func(d *drum.Drum) {}},
	{"failed", func(d *drum.Drum) { d.Fail() }},
	{"failed twice", func(d *drum.Drum) { d.Fail(); d.Fail() }},
	{"crashed at a sync", func(d *drum.Drum) { d.Fuse(1); d.Sync() }},
	{"crashed at a write", func(d *drum.Drum) { d.Fuse(1); d.Write(0, told(99)) }},
	{"failed, asked for more", func(d *drum.Drum) { d.Fail(); d.Write(0, told(98)); d.Sync(); d.Read(0); d.Fuse(3) }},
}

func TestEachMaskOfOneWrite(t *testing.T) {
	for _, c := range fails {
		for mask := range 256 {
			d := fresh(t, 2)
			write(t, d, 1, told(1), api.OK)
			sync(t, d, api.OK)
			write(t, d, 1, told(2), api.OK)
			c.do(d)
			d.Start([]uint8{uint8(mask)})
			on(t, d, true)
			reads(t, c.what, d, 1, torn(uint8(mask), told(2), told(1)))
			reads(t, c.what, d, 0, filled(0))
		}
	}
}

// Of the writes that wait some have masks, and masks may be left.
func TestHowManyMasks(t *testing.T) {
	for _, c := range fails {
		for waits := range 6 {
			for many := range 9 {
				for _, mask := range []uint8{0, 1, 0x80, 0xa5, 0xff} {
					masks := bytes.Repeat([]byte{mask}, many)
					d := fresh(t, 6)
					for k := range waits {
						write(t, d, k, told(k+1), api.OK)
					}
					c.do(d)
					d.Start(masks)
					for k := range 6 {
						want := filled(0)
						if k < waits {
							want = told(k + 1)
						}
						if k < min(waits, many) {
							want = torn(mask, want, filled(0))
						}
						reads(t, c.what, d, k, want)
					}
				}
			}
		}
	}
}

func TestNoMasks(t *testing.T) {
	for _, masks := range [][]uint8{nil, {}, make([]uint8, 0, 9)} {
		d := fresh(t, 2)
		for k := range 5 {
			write(t, d, k%2, told(k), api.OK)
		}
		d.Start(masks)
		reads(t, "no masks", d, 0, told(4))
		reads(t, "no masks", d, 1, told(3))
	}
}

func TestNothingWaits(t *testing.T) {
	for _, masks := range [][]uint8{nil, {}, {0}, {255}, {0, 0, 0}, bytes.Repeat([]byte{0x5a}, 1000)} {
		d := fresh(t, 2)
		d.Start(masks)
		on(t, d, true)
		reads(t, "nothing written", d, 0, filled(0))
		write(t, d, 0, told(1), api.OK)
		sync(t, d, api.OK)
		d.Start(masks)
		d.Start(masks)
		d.Fail()
		d.Start(masks)
		reads(t, "nothing waits", d, 0, told(1))
		reads(t, "nothing waits", d, 1, filled(0))
	}
}

// Behind a Start nothing waits: the masks of the next one are for later writes.
func TestMasksAreOfWhatWaits(t *testing.T) {
	d := fresh(t, 2)
	write(t, d, 0, told(1), api.OK)
	d.Start([]uint8{0x0f})
	half := torn(0x0f, told(1), filled(0))
	reads(t, "landed", d, 0, half)
	write(t, d, 1, told(2), api.OK)
	d.Start([]uint8{0xf0, 0x00})
	reads(t, "landed ahead", d, 0, half)
	reads(t, "landed", d, 1, torn(0xf0, told(2), filled(0)))
	write(t, d, 0, told(3), api.OK)
	sync(t, d, api.OK)
	write(t, d, 1, told(4), api.OK)
	d.Start([]uint8{0x01, 0x00})
	reads(t, "synced", d, 0, told(3))
	reads(t, "landed", d, 1, torn(0x01, told(4), torn(0xf0, told(2), filled(0))))
}

// A write that was refused waits no more than it was written.
func TestRefusedWritesHaveNoMask(t *testing.T) {
	d := fresh(t, 2)
	write(t, d, 2, told(9), api.ErrRange)
	write(t, d, 0, told(1), api.OK)
	write(t, d, 0, told(9)[:63], api.ErrArg)
	write(t, d, -1, told(9), api.ErrRange)
	write(t, d, 1, told(2), api.OK)
	d.Fail()
	write(t, d, 0, told(9), api.ErrDown)
	d.Start([]uint8{0x01, 0x80, 0x00, 0x00})
	reads(t, "first", d, 0, torn(0x01, told(1), filled(0)))
	reads(t, "second", d, 1, torn(0x80, told(2), filled(0)))
}

// P12.2: what is sure, and whose words a sector has

func TestSureStays(t *testing.T) {
	for _, c := range fails {
		d := fresh(t, 2)
		write(t, d, 0, told(1), api.OK)
		sync(t, d, api.OK)
		for mask := range 256 {
			write(t, d, 1, told(mask), api.OK)
			if c.what == "crashed at a write" {
				d.Fuse(1)
				write(t, d, 0, told(2), api.ErrCrash)
			} else {
				c.do(d)
			}
			d.Start([]uint8{uint8(mask), uint8(mask), uint8(mask)})
			reads(t, c.what, d, 0, told(1))
		}
	}
}

// What has landed is sure, too, without a Sync.
func TestLandedIsSure(t *testing.T) {
	for mask := range 256 {
		d := fresh(t, 1)
		write(t, d, 0, told(1), api.OK)
		d.Start([]uint8{uint8(mask)})
		want := torn(uint8(mask), told(1), filled(0))
		for _, c := range fails[:4] {
			c.do(d)
			d.Start([]uint8{uint8(mask), 0, 255})
			reads(t, c.what, d, 0, want)
			d.Start(nil)
			reads(t, c.what, d, 0, want)
		}
	}
}

// Two writes of one sector wait: each word is of the later one that landed, or
// what it was.
func TestEachTwoMasksOfOneSector(t *testing.T) {
	for a := range 256 {
		for b := range 256 {
			d := fresh(t, 1)
			write(t, d, 0, told(1), api.OK)
			sync(t, d, api.OK)
			write(t, d, 0, told(2), api.OK)
			write(t, d, 0, told(3), api.OK)
			d.Start([]uint8{uint8(a), uint8(b)})
			reads(t, "two masks", d, 0, torn(uint8(b), told(3), torn(uint8(a), told(2), told(1))))
		}
	}
}

func TestWordsOfDifferentWrites(t *testing.T) {
	d := fresh(t, 2)
	write(t, d, 1, told(0), api.OK)
	sync(t, d, api.OK)
	for k := range 7 {
		write(t, d, 1, told(k+1), api.OK)
		write(t, d, 0, told(100+k), api.OK)
	}
	masks := make([]uint8, 14)
	for k := range 7 {
		masks[2*k] = 1 << (6 - k)
	}
	d.Start(masks)
	b, _ := d.Read(1)
	for n := range 7 {
		if !bytes.Equal(word(b, n), word(told(7-n), n)) {
			t.Errorf("word %d is % x", n, word(b, n))
		}
	}
	if !bytes.Equal(word(b, 7), word(told(0), 7)) {
		t.Errorf("word 7 is % x", word(b, 7))
	}
	reads(t, "beside it", d, 0, filled(0))
}

// A write behind one that has a mask, and has none itself, lands whole.
func TestTheLaterWriteHasNoMask(t *testing.T) {
	for mask := range 256 {
		d := fresh(t, 1)
		write(t, d, 0, told(1), api.OK)
		write(t, d, 0, told(2), api.OK)
		d.Start([]uint8{uint8(mask)})
		reads(t, "no mask", d, 0, told(2))
	}
}

// Each word is, behind a Start, one that its place had, or one that was written there.
func TestEachWordIsOneThatWas(t *testing.T) {
	r := rand.New(rand.NewSource(12))
	d := fresh(t, 4)
	for turn := range 2000 {
		may := map[[2]int][]string{}
		for at := range 4 {
			b, _ := d.Read(at)
			for n := range words {
				may[[2]int{at, n}] = append(may[[2]int{at, n}], string(word(b, n)))
			}
		}
		masks := make([]uint8, r.Intn(8))
		r.Read(masks)
		for k := range r.Intn(8) {
			at, b := r.Intn(4), told(turn*8+k)
			write(t, d, at, b, api.OK)
			for n := range words {
				may[[2]int{at, n}] = append(may[[2]int{at, n}], string(word(b, n)))
			}
		}
		fails[r.Intn(4)].do(d)
		d.Start(masks)
		for at := range 4 {
			b, _ := d.Read(at)
			for n := range words {
				if !slices.Contains(may[[2]int{at, n}], string(word(b, n))) {
					t.Fatalf("word %d of sector %d is % x, which it never was", n, at, word(b, n))
				}
			}
		}
	}
}

// P12.3: no other sector

func TestNoOtherSector(t *testing.T) {
	for _, n := range []int{2, 3, 9, 65} {
		for at := range n {
			d := fresh(t, n)
			for other := range n {
				write(t, d, other, told(other), api.OK)
			}
			sync(t, d, api.OK)
			others := func(what string) {
				t.Helper()
				for other := range n {
					if other != at {
						reads(t, what, d, other, told(other))
					}
				}
			}
			write(t, d, at, filled(1), api.OK)
			others("written")
			write(t, d, at, filled(2), api.OK)
			d.Start([]uint8{0xff, 0x81})
			others("landed")
			write(t, d, at, filled(3), api.OK)
			sync(t, d, api.OK)
			others("synced")
			d.Fuse(1)
			write(t, d, at, filled(4), api.ErrCrash)
			d.Start(nil)
			others("crashed")
			reads(t, "itself", d, at, filled(3))
		}
	}
}

func TestNoOtherSectorOfMost(t *testing.T) {
	d, v := fresh(t, most), deviceOf(most)
	for at := range most {
		write(t, d, at, told(at), v.write(at, told(at)))
	}
	sync(t, d, v.sync())
	for k, at := range []int{0, 1, 63, 64, 255, 256, 4095, 4096, most - 2, most - 1} {
		write(t, d, at, filled(byte(k+1)), v.write(at, filled(byte(k+1))))
	}
	same(t, "written", d, v)
	masks := []uint8{0xff, 0x00, 0x01, 0x80, 0xa5, 0x5a, 0xff, 0x10}
	d.Start(masks)
	v.start(masks)
	same(t, "landed", d, v)
}

// alone is a sector's own row of what is done to a drum: what is done to the
// other sectors is left out, and the masks of their writes.
type alone struct {
	d    *drum.Drum
	mine []int
}

// What a sector has hangs on what is done to it alone.
func TestEachSectorHasItsOwnRow(t *testing.T) {
	const n = 4
	for seed := range 100 {
		r := rand.New(rand.NewSource(int64(seed)))
		d, waits := fresh(t, n), 0
		own := make([]alone, n)
		for at := range own {
			own[at].d = fresh(t, 1)
		}
		for turn := range 200 {
			switch c := r.Intn(20); {
			case c < 15:
				at := r.Intn(n)
				write(t, d, at, told(turn), api.OK)
				write(t, own[at].d, 0, told(turn), api.OK)
				own[at].mine = append(own[at].mine, waits)
				waits++
			case c < 17:
				sync(t, d, api.OK)
				waits = 0
				for at := range own {
					sync(t, own[at].d, api.OK)
					own[at].mine = nil
				}
			default:
				masks := make([]uint8, waits)
				r.Read(masks)
				d.Start(masks)
				waits = 0
				for at := range own {
					var mine []uint8
					for _, k := range own[at].mine {
						mine = append(mine, masks[k])
					}
					own[at].d.Start(mine)
					own[at].mine = nil
				}
			}
			for at := range own {
				want, _ := own[at].d.Read(0)
				reads(t, "its own row", d, at, want)
			}
		}
	}
}
