package scroll_test

import (
	"bytes"
	"math/rand"
	"slices"
	"testing"

	"seisin/api"
	"seisin/drum"
	"seisin/scroll"
)

// fits must get this answer of Fits.
func fits(t *testing.T, s *scroll.Scroll, want bool, l ...[]byte) {
	t.Helper()
	if got := s.Fits(l); got != want {
		t.Fatalf("%d records fit: %v", len(l), got)
	}
}

// P13.2: Put, Sync, Left

func TestRecordsArePut(t *testing.T) {
	for _, turn := range edges {
		s, d := blank(t, 30, turn)
		var l [][]byte
		var forms []byte
		for n, many := range []int{3, 0, 60, 1, 500, 52, 51, 46} {
			l = append(l, row(n, many))
			forms = append(forms, formOf(turn, n, l[n])...)
			fits(t, s, true, l[n])
			puts(t, s, l[n], api.OK)
			leaves(t, s, 30-len(forms)/size)
			has(t, "put", d, forms)
			scans(t, "put", d, 0, 30, turn, l, len(forms)/size)
			if n%3 == 0 {
				syncs(t, s, api.OK)
			}
		}
		syncs(t, s, api.OK)
		syncs(t, s, api.OK)
		d.Start([]uint8{0})
		has(t, "synced", d, forms)
		s = opens(t, "opened", d, 0, 30, turn, l)
		leaves(t, s, 30-len(forms)/size)
		puts(t, s, []byte("more"), api.OK)
		has(t, "opened and put", d, forms, formOf(turn, len(l), []byte("more")))
	}
}

// A number of more bytes makes a longer record: of 256, and of the first one.
func TestNumbersGrow(t *testing.T) {
	s, d := blank(t, 400, 1)
	b := row(1, filling(1, 255, 1))
	sectors := 0
	var forms []byte
	for n := range 260 {
		forms = append(forms, formOf(1, n, b)...)
		want := 1
		if n > 255 {
			want = 2
		}
		if n == 255 {
			fits(t, s, true, b, b, b)
			fits(t, s, false, append(slices.Repeat([][]byte{b}, 73), nil)...)
			fits(t, s, true, slices.Repeat([][]byte{b}, 73)...)
			fits(t, s, false, slices.Repeat([][]byte{b}, 74)...)
		}
		puts(t, s, b, api.OK)
		sectors += want
		leaves(t, s, 400-sectors)
	}
	has(t, "260 records", d, forms)
}

func TestARecordThatJustFills(t *testing.T) {
	for _, turn := range []int{0, 300, highest} {
		for _, sectors := range []int{1, 2, 3, 60, 1023, longest} {
			many := filling(turn, 0, sectors)
			s, d := blank(t, sectors, turn)
			if sectors < longest {
				fits(t, s, false, make([]byte, many+1))
				puts(t, s, row(1, many+1), api.ErrFull)
			}
			if sectors < longest-1 {
				puts(t, s, make([]byte, many+65), api.ErrFull)
			}
			has(t, "full", d)
			leaves(t, s, sectors)
			fits(t, s, true, row(1, many))
			fits(t, s, false, row(1, many), nil)
			puts(t, s, row(1, many), api.OK)
			leaves(t, s, 0)
			fits(t, s, true)
			fits(t, s, false, nil)
			puts(t, s, nil, api.ErrFull)
			has(t, "just filled", d, formOf(turn, 0, row(1, many)))
			syncs(t, s, api.OK)
			d.Start([]uint8{0})
			leaves(t, opens(t, "just filled", d, 0, sectors, turn, [][]byte{row(1, many)}), 0)
		}
	}
}

// ErrLong is looked for ahead of ErrFull; both leave all as it was.
func TestPutRefuses(t *testing.T) {
	for _, sectors := range []int{3, 6, longest, 1100} {
		for n := range 3 {
			s, d := blank(t, sectors, 7)
			var forms []byte
			for k := range n {
				puts(t, s, row(k, 10), api.OK)
				forms = append(forms, formOf(7, k, row(k, 10))...)
			}
			long := filling(7, n, longest) + 1
			for range 2 {
				puts(t, s, make([]byte, long), api.ErrLong)
				puts(t, s, make([]byte, 70000), api.ErrLong)
				puts(t, s, make([]byte, 1<<20), api.ErrLong)
				fits(t, s, false, make([]byte, long))
				want := api.ErrFull
				if sectors-n >= longest {
					want = api.OK
				}
				fits(t, s, want == api.OK, make([]byte, long-1))
				if want == api.ErrFull {
					puts(t, s, make([]byte, long-1), want)
					puts(t, s, row(9, filling(7, n, sectors-n+1)), want)
					puts(t, s, row(9, filling(7, n, sectors-n)+1), want)
				}
				leaves(t, s, sectors-n)
				has(t, "refused", d, forms)
			}
			// Neither the number nor the place has gone on.
			fits(t, s, true, []byte("next"))
			puts(t, s, []byte("next"), api.OK)
			has(t, "put behind", d, forms, formOf(7, n, []byte("next")))
			leaves(t, s, sectors-n-1)
		}
	}
}

// Nothing that was refused waits, or counts for a fuse.
func TestPutRefusesWithoutAWrite(t *testing.T) {
	s, d := blank(t, 2, 7)
	d.Fuse(1)
	for range 3 {
		puts(t, s, make([]byte, 65520), api.ErrLong)
		puts(t, s, make([]byte, 200), api.ErrFull)
		fits(t, s, false, make([]byte, 200))
		fits(t, s, true, make([]byte, 20))
		leaves(t, s, 2)
	}
	if !d.On() {
		t.Fatal("the power has failed")
	}
	puts(t, s, nil, api.ErrCrash)
}

// A record is written sector by sector, each once: a fuse for each of them, and
// one for the sync.
func TestSectorBySector(t *testing.T) {
	for _, sectors := range []int{1, 2, 3, 5} {
		b := row(sectors, filling(2, 1, sectors))
		front, form := formOf(2, 0, []byte("ab")), formOf(2, 1, b)
		for fuse := 1; fuse <= sectors+2; fuse++ {
			s, d := blank(t, 8, 2)
			puts(t, s, []byte("ab"), api.OK)
			syncs(t, s, api.OK)
			d.Fuse(fuse)
			if fuse <= sectors {
				puts(t, s, b, api.ErrCrash)
				d.Start(nil)
				has(t, "written up to the fuse", d, front, form[:(fuse-1)*size])
				continue
			}
			puts(t, s, b, api.OK)
			has(t, "written", d, front, form)
			if fuse == sectors+1 {
				syncs(t, s, api.ErrCrash)
				d.Start(make([]uint8, sectors))
				has(t, "lost", d, front)
				continue
			}
			syncs(t, s, api.OK)
			d.Start(make([]uint8, sectors))
			has(t, "sure", d, front, form)
		}
	}
}

// Each write is a sector's own: of three that wait any may land.
func TestWhichSectorsLand(t *testing.T) {
	b := row(1, filling(2, 0, 3))
	form := formOf(2, 0, b)
	for set := range 8 {
		s, d := blank(t, 4, 2)
		puts(t, s, b, api.OK)
		masks, want := make([]uint8, 3), bytes.Clone(form)
		for k := range 3 {
			if set&(1<<k) != 0 {
				masks[k] = 255
			} else {
				clear(want[k*size : k*size+size])
			}
		}
		d.Start(masks)
		has(t, "landed", d, want)
	}
}

// Put alone makes nothing sure, and neither do Left and Fits.
func TestPutIsNotSure(t *testing.T) {
	s, d := blank(t, 8, 2)
	puts(t, s, []byte("ab"), api.OK)
	puts(t, s, []byte("cd"), api.OK)
	fits(t, s, true, nil)
	leaves(t, s, 6)
	d.Start([]uint8{0, 0})
	has(t, "lost", d)
	opens(t, "lost", d, 0, 8, 2, nil)
}

// P13.2: behind an error of the drum

// unused must find that a scroll isn't used any more.
func unused(t *testing.T, s *scroll.Scroll, d *drum.Drum, left int) {
	t.Helper()
	for range 2 {
		puts(t, s, nil, api.ErrCrash)
		puts(t, s, []byte("ab"), api.ErrCrash)
		puts(t, s, make([]byte, 5000), api.ErrCrash)
		puts(t, s, make([]byte, 70000), api.ErrCrash)
		syncs(t, s, api.ErrCrash)
		leaves(t, s, left)
		fits(t, s, true)
		fits(t, s, left > 0, nil)
		fits(t, s, false, make([]byte, 5000))
		fits(t, s, false, make([]byte, 70000))
		// It isn't used any more though the power is back.
		d.Start(nil)
	}
}

func TestPutBehindAnError(t *testing.T) {
	for _, c := range []struct {
		what  string
		fails func(d *drum.Drum)
		do    func(s *scroll.Scroll) api.Errno
		want  api.Errno
	}{
		{"a put that crashes", func(d *drum.Drum) { d.Fuse(1) }, func(s *scroll.Scroll) api.Errno { return s.Put(nil) }, api.ErrCrash},
		{"a put that crashes within", func(d *drum.Drum) { d.Fuse(2) }, func(s *scroll.Scroll) api.Errno { return s.Put(row(1, 100)) }, api.ErrCrash},
		{"a sync that crashes", func(d *drum.Drum) { d.Fuse(1) }, func(s *scroll.Scroll) api.Errno { return s.Sync() }, api.ErrCrash},
		{"a put while the power is off", func(d *drum.Drum) { d.Fail() }, func(s *scroll.Scroll) api.Errno { return s.Put(nil) }, api.ErrDown},
		{"a sync while the power is off", func(d *drum.Drum) { d.Fail() }, func(s *scroll.Scroll) api.Errno { return s.Sync() }, api.ErrDown},
	} {
		for _, n := range []int{0, 1, 3} {
			s, d := blank(t, 6, 2)
			var l [][]byte
			for k := range n {
				l = append(l, row(k, 10))
				puts(t, s, l[k], api.OK)
			}
			syncs(t, s, api.OK)
			c.fails(d)
			if x := c.do(s); x != c.want {
				t.Fatalf("%s: %d, not %d", c.what, x, c.want)
			}
			unused(t, s, d, 6-n)
			if c.what != "a put that crashes within" {
				has(t, c.what, d, slices.Concat(formsOf(2, 0, l)...))
			}
			// Another scroll is used then.
			s = opens(t, c.what, d, 0, 6, 2, l)
			puts(t, s, []byte("ab"), api.OK)
			syncs(t, s, api.OK)
			scans(t, c.what, d, 0, 6, 2, append(l, []byte("ab")), n+1)
		}
	}
}

// formsOf are the forms of records, one behind the other.
func formsOf(turn, first int, l [][]byte) [][]byte {
	var forms [][]byte
	for i, b := range l {
		forms = append(forms, formOf(turn, first+i, b))
	}
	return forms
}

// What is refused by ErrLong or ErrFull is refused ahead of the drum's errors,
// and the scroll is used on.
func TestPutRefusesAheadOfTheDrum(t *testing.T) {
	s, d := blank(t, 3, 2)
	puts(t, s, []byte("ab"), api.OK)
	syncs(t, s, api.OK)
	d.Fail()
	puts(t, s, make([]byte, 70000), api.ErrLong)
	puts(t, s, make([]byte, 300), api.ErrFull)
	leaves(t, s, 2)
	fits(t, s, true, nil, nil)
	fits(t, s, false, nil, nil, nil)
	fits(t, s, false, make([]byte, 70000))
	d.Start(nil)
	puts(t, s, []byte("cd"), api.OK)
	syncs(t, s, api.OK)
	has(t, "used on", d, formOf(2, 0, []byte("ab")), formOf(2, 1, []byte("cd")))
}

// P13.2: Fits

func TestFits(t *testing.T) {
	s, d := blank(t, 10, 1)
	one, two := row(1, filling(1, 1, 1)), row(2, filling(1, 0, 1)+1)
	fits(t, s, true)
	fits(t, s, true, nil)
	fits(t, s, true, slices.Repeat([][]byte{one}, 10)...)
	fits(t, s, false, slices.Repeat([][]byte{one}, 11)...)
	fits(t, s, true, slices.Repeat([][]byte{two}, 5)...)
	fits(t, s, false, slices.Repeat([][]byte{two}, 6)...)
	fits(t, s, true, two, one, two, one, two, one, nil)
	fits(t, s, false, two, one, two, one, two, one, nil, nil)
	fits(t, s, false, nil, make([]byte, 70000))
	fits(t, s, false, make([]byte, 70000), nil)
	// One of a hundred thousand: none of them is told to fit as sums go round.
	fits(t, s, false, slices.Repeat([][]byte{make([]byte, 60000)}, 100000)...)
	puts(t, s, two, api.OK)
	puts(t, s, one, api.OK)
	fits(t, s, true, slices.Repeat([][]byte{one}, 7)...)
	fits(t, s, false, slices.Repeat([][]byte{one}, 8)...)
	leaves(t, s, 7)
	has(t, "asked alone", d, formOf(1, 0, two), formOf(1, 1, one))
}

// There is room for one that has no form, and yet it doesn't fit.
func TestFitsNeedsAForm(t *testing.T) {
	s, _ := blank(t, 4000, 1)
	for n := range 3 {
		long := filling(1, n, longest)
		fits(t, s, true, make([]byte, long))
		fits(t, s, false, make([]byte, long+1))
		fits(t, s, false, nil, make([]byte, 65536))
		if n < 2 {
			fits(t, s, true, make([]byte, long-1), make([]byte, long-1), nil)
		}
		puts(t, s, make([]byte, long), api.OK)
		leaves(t, s, 4000-(n+1)*longest)
	}
}

// Fits tells whether all are put, one behind the other.
func TestFitsIsAsPut(t *testing.T) {
	r := rand.New(rand.NewSource(17))
	there := [2]int{}
	for range 2000 {
		sectors, turn := r.Intn(30), edges[r.Intn(len(edges))]
		d := fresh(t, 30)
		s, x := scroll.Blank(d, 0, sectors, turn)
		if x != api.OK {
			t.Fatal(x)
		}
		for range r.Intn(4) {
			s.Put(row(1, r.Intn(100)))
		}
		l := make([][]byte, r.Intn(9))
		for i := range l {
			l[i] = row(i, r.Intn(250))
		}
		if r.Intn(30) == 0 {
			l = append(l, make([]byte, 65536))
		}
		want := s.Fits(l)
		left, before := s.Left(), bytesOf(t, d)
		if got := s.Fits(l); got != want || s.Left() != left || !bytes.Equal(bytesOf(t, d), before) {
			t.Fatal("Fits has changed something")
		}
		all := true
		for _, b := range l {
			all = all && s.Put(b) == api.OK
		}
		if all != want {
			t.Fatalf("%d records in %d sectors fit: %v, and are put: %v", len(l), left, want, all)
		}
		if want {
			there[1]++
		} else {
			there[0]++
		}
	}
	if min(there[0], there[1]) < 300 {
		t.Error("too few of one kind", there)
	}
}

// P13.2: memory (R4)

func TestWhatWasPutMayBeChanged(t *testing.T) {
	s, d := blank(t, 8, 2)
	whole := row(1, 300)
	b := whole[:100]
	puts(t, s, b, api.OK)
	l := [][]byte{whole[:50], whole[50:60]}
	fits(t, s, true, l...)
	if !bytes.Equal(whole, row(1, 300)) || !alike(l, [][]byte{row(1, 300)[:50], row(1, 300)[50:60]}) {
		t.Fatal("what was given has changed")
	}
	clear(whole)
	has(t, "given and changed", d, formOf(2, 0, row(1, 300)[:100]))
	puts(t, s, b, api.OK)
	copy(whole, row(9, 300))
	syncs(t, s, api.OK)
	copy(whole, row(8, 300))
	has(t, "synced, given and changed", d, formOf(2, 0, row(1, 300)[:100]), formOf(2, 1, make([]byte, 100)))
	scans(t, "given and changed", d, 0, 8, 2, [][]byte{row(1, 300)[:100], make([]byte, 100)}, 4)
}

func TestWhatWasOpenedMayBeChanged(t *testing.T) {
	want := [][]byte{row(1, 10), row(2, 100), nil}
	forms := formsOf(2, 0, want)
	d := laid(t, 8, forms...)
	s, l, _ := scroll.Open(d, 0, 8, 2)
	for i, b := range l {
		for k := range b {
			b[k] = 0xee
		}
		_ = append(b, row(9, 300)...)
		l[i] = nil
	}
	_ = append(l, row(9, 9))
	has(t, "told and changed", d, forms...)
	leaves(t, s, 4)
	puts(t, s, []byte("next"), api.OK)
	has(t, "told, changed and put", d, append(forms, formOf(2, 3, []byte("next")))...)
	opens(t, "told and changed", d, 0, 8, 2, append(want, []byte("next")))
}

// What lies behind a list in its memory isn't read.
func TestWhatLiesBehindAList(t *testing.T) {
	s, d := blank(t, 8, 2)
	whole := row(1, 200)
	puts(t, s, whole[:20], api.OK)
	puts(t, s, whole[:0], api.OK)
	l := slices.Repeat([][]byte{whole}, 20)
	fits(t, s, true, l[:1]...)
	fits(t, s, false, l[:2]...)
	has(t, "cut", d, formOf(2, 0, row(1, 200)[:20]), formOf(2, 1, nil))
	if !bytes.Equal(whole, row(1, 200)) {
		t.Fatal("what was given has changed")
	}
}
