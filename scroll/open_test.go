package scroll_test

import (
	"bytes"
	"slices"
	"testing"

	"seisin/api"
	"seisin/drum"
	"seisin/scroll"
)

// opens must open a scroll with these records.
func opens(t *testing.T, what string, d *drum.Drum, from, many, turn int, want [][]byte) *scroll.Scroll {
	t.Helper()
	s, l, x := scroll.Open(d, from, many, turn)
	if x != api.OK || s == nil || !alike(l, want) {
		t.Fatalf("%s: %d records, %d, not %d: %.40q", what, len(l), x, len(want), l)
	}
	return s
}

// unopened must get this error of Open and of Blank, and nothing else.
func unopened(t *testing.T, what string, d *drum.Drum, from, many, turn int, want api.Errno) {
	t.Helper()
	if s, l, x := scroll.Open(d, from, many, turn); x != want || s != nil || len(l) != 0 {
		t.Fatalf("%s: open: a scroll: %v, %d records, %d, not %d", what, s != nil, len(l), x, want)
	}
	if s, x := scroll.Blank(d, from, many, turn); x != want || s != nil {
		t.Fatalf("%s: blank: a scroll: %v, %d, not %d", what, s != nil, x, want)
	}
}

// blank is a scroll without records, of a whole drum.
func blank(t *testing.T, sectors, turn int) (*scroll.Scroll, *drum.Drum) {
	t.Helper()
	d := fresh(t, sectors)
	s, x := scroll.Blank(d, 0, sectors, turn)
	if x != api.OK || s == nil {
		t.Fatalf("no blank scroll of %d sectors: %d", sectors, x)
	}
	return s, d
}

// puts must get this error of Put.
func puts(t *testing.T, s *scroll.Scroll, b []byte, want api.Errno) {
	t.Helper()
	if x := s.Put(b); x != want {
		t.Fatalf("%d bytes are put: %d, not %d", len(b), x, want)
	}
}

// syncs must get this error of Sync.
func syncs(t *testing.T, s *scroll.Scroll, want api.Errno) {
	t.Helper()
	if x := s.Sync(); x != want {
		t.Fatalf("a sync answers %d, not %d", x, want)
	}
}

// leaves must find so many sectors left.
func leaves(t *testing.T, s *scroll.Scroll, want int) {
	t.Helper()
	if got := s.Left(); got != want {
		t.Fatalf("%d sectors are left, not %d", got, want)
	}
}

// noise is a sector of no record.
func noise(n int) []byte { return row(100+n, size) }

// P13.2: Open

func TestOpenTellsWhatScanTells(t *testing.T) {
	l := [][]byte{row(1, 5), row(2, 90), nil, row(3, 48)}
	for _, turn := range edges {
		var forms []byte
		for n := range len(l) + 1 {
			sectors := len(forms) / size
			for _, more := range []int{0, 1, 5} {
				d := fresh(t, sectors+more+3)
				lay(t, d, 2, forms)
				s := opens(t, "open", d, 2, sectors+more, turn, l[:n])
				leaves(t, s, more)
				has(t, "opened", d, make([]byte, 2*size), forms)
				scans(t, "opened", d, 2, sectors+more, turn, l[:n], sectors)
				if more > 0 {
					puts(t, s, []byte("next"), api.OK)
					leaves(t, s, more-1)
					has(t, "put", d, make([]byte, 2*size), forms, formOf(turn, n, []byte("next")))
				} else {
					puts(t, s, nil, api.ErrFull)
				}
			}
			if n < len(l) {
				forms = append(forms, formOf(turn, n, l[n])...)
			}
		}
	}
}

func TestOpenErrors(t *testing.T) {
	forms := [][]byte{formOf(1, 0, []byte("ab")), noise(1), noise(2)}
	on, off := laid(t, 8, forms...), laid(t, 8, forms...)
	off.Fail()
	for _, turn := range oddNumbers {
		unopened(t, "turn outside", on, 0, 8, turn, api.ErrArg)
		unopened(t, "turn outside, off", off, 0, 8, turn, api.ErrArg)
		unopened(t, "nil, turn outside", nil, 0, 0, turn, api.ErrArg)
	}
	for _, turn := range []int{0, 1, highest} {
		unopened(t, "nil", nil, 0, 0, turn, api.ErrArg)
		unopened(t, "nil", nil, 0, 3, turn, api.ErrArg)
		for _, d := range []*drum.Drum{on, off} {
			unopened(t, "from below 0", d, -1, 3, turn, api.ErrArg)
			unopened(t, "many below 0", d, 3, -1, turn, api.ErrArg)
			unopened(t, "beyond", d, 0, 9, turn, api.ErrArg)
			unopened(t, "beyond", d, 3, 6, turn, api.ErrArg)
			unopened(t, "beyond", d, 8, 1, turn, api.ErrArg)
			unopened(t, "beyond", d, 9, 0, turn, api.ErrArg)
			unopened(t, "far beyond", d, 1<<62, 1<<62, turn, api.ErrArg)
			unopened(t, "far beyond", d, 1, 1<<63-1, turn, api.ErrArg)
			unopened(t, "far beyond", d, 1<<63-1, 1, turn, api.ErrArg)
		}
		unopened(t, "off", off, 0, 8, turn, api.ErrDown)
		unopened(t, "off, no sectors", off, 0, 0, turn, api.ErrDown)
	}
	has(t, "refused", on, forms...)
	off.Start(nil)
	has(t, "refused, off", off, forms...)
}

func TestOpenNoSectors(t *testing.T) {
	d := laid(t, 3, noise(0), noise(1), noise(2))
	d.Write(1, noise(3))
	d.Fuse(1)
	for from := range 4 {
		for _, turn := range []int{0, highest} {
			s := opens(t, "no sectors", d, from, 0, turn, nil)
			b, x := scroll.Blank(d, from, 0, turn)
			if x != api.OK {
				t.Fatal(x)
			}
			for _, s := range []*scroll.Scroll{s, b} {
				leaves(t, s, 0)
				puts(t, s, nil, api.ErrFull)
				puts(t, s, make([]byte, 70000), api.ErrLong)
				if !s.Fits(nil) || s.Fits([][]byte{nil}) {
					t.Fatal("what fits in no sectors")
				}
			}
		}
	}
	has(t, "no sectors", d, noise(0), noise(3), noise(2))
	d.Start([]uint8{0})
	has(t, "no sectors, not synced", d, noise(0), noise(1), noise(2))
}

func TestTheWholeDrumIsOpened(t *testing.T) {
	s, d := blank(t, most, 4)
	leaves(t, s, most)
	var l [][]byte
	for n := range most / longest {
		l = append(l, row(n, filling(4, n, longest)))
		if !s.Fits(l[n:]) {
			t.Fatalf("record %d doesn't fit", n)
		}
		puts(t, s, l[n], api.OK)
		leaves(t, s, most-(n+1)*longest)
	}
	puts(t, s, nil, api.ErrFull)
	syncs(t, s, api.OK)
	d.Start([]uint8{0})
	s = opens(t, "whole drum", d, 0, most, 4, l)
	leaves(t, s, 0)
	puts(t, s, nil, api.ErrFull)
	unopened(t, "one more", d, 0, most+1, 4, api.ErrArg)
	unopened(t, "one more", d, 1, most, 4, api.ErrArg)
	if _, x := scroll.Blank(d, 0, most, 4); x != api.OK {
		t.Fatal(x)
	}
	has(t, "blank", d)
}

// stretches are what may stand in a stretch of eight sectors, turn 3: behind
// the records, whose sectors they are, each other sector that isn't of zeros is
// to be wiped.
var stretches = []struct {
	what    string
	records [][]byte
	behind  [][]byte
}{
	{"nothing", nil, nil},
	{"zeros behind", [][]byte{row(1, 3), row(2, 90)}, nil},
	{"noise at first", nil, [][]byte{noise(1)}},
	{"noise behind", [][]byte{row(1, 3), row(2, 90)}, [][]byte{noise(1), noise(2)}},
	{"noise far behind", [][]byte{row(1, 3)}, [][]byte{make([]byte, 6*size), noise(1)}},
	{"noise here and there", [][]byte{row(1, 3)}, [][]byte{noise(1), make([]byte, size), noise(2), make([]byte, 2*size), noise(3)}},
	{"noise everywhere", nil, [][]byte{noise(1), noise(2), noise(3), noise(4), noise(5), noise(6), noise(7), noise(8)}},
	{"a first byte", [][]byte{row(1, 3)}, [][]byte{with(make([]byte, size), 0, 1)}},
	{"a last byte", [][]byte{row(1, 3)}, [][]byte{make([]byte, size), with(make([]byte, size), size-1, 128)}},
	{"another turn", nil, [][]byte{formOf(4, 0, row(1, 3)), formOf(4, 1, row(2, 90))}},
	{"another turn behind", [][]byte{row(1, 3)}, [][]byte{formOf(2, 1, row(2, 90))}},
	{"another number", [][]byte{row(1, 3)}, [][]byte{formOf(3, 2, row(2, 90)), formOf(3, 3, nil)}},
	{"a gap", [][]byte{row(1, 3)}, [][]byte{make([]byte, size), formOf(3, 1, row(2, 3)), formOf(3, 2, nil)}},
	{"a torn one", [][]byte{row(1, 3)}, [][]byte{with(formOf(3, 1, row(2, 90)), 8, make([]byte, 8)...), formOf(3, 2, nil)}},
	{"another part's zeros", [][]byte{row(1, 3)}, [][]byte{with(formOf(3, 1, make([]byte, 150)), 4, 9)}},
	{"full", [][]byte{row(1, 3), row(2, 400)}, nil},
}

// Each sector behind the records that isn't all zeros is written, and no other
// one; the drum is synced if there was one, and else it isn't.
func TestWhatOpenWipes(t *testing.T) {
	const before, many = 2, 8
	margin, back := row(50, before*size), row(60, 2*size)
	for _, c := range stretches {
		var records []byte
		for n, b := range c.records {
			records = append(records, formOf(3, n, b)...)
		}
		behind := slices.Concat(c.behind...)
		behind = append(behind, make([]byte, many*size-len(records)-len(behind))...)
		all := append(bytes.Clone(records), behind...)
		wiped := func(part []byte) int {
			return len(slices.DeleteFunc(slices.Collect(slices.Chunk(part, size)), func(sector []byte) bool {
				return bytes.Equal(sector, make([]byte, size))
			}))
		}
		for _, how := range []struct {
			what  string
			open  func(d *drum.Drum) api.Errno
			stays []byte
			wiped int
		}{
			{c.what + ", open", func(d *drum.Drum) api.Errno {
				s, l, x := scroll.Open(d, before, many, 3)
				if x == api.OK {
					leaves(t, s, len(behind)/size)
				}
				if x == api.OK && !alike(l, c.records) || x != api.OK && (s != nil || len(l) != 0) {
					t.Fatalf("%s: %d records, %d", c.what, len(l), x)
				}
				return x
			}, records, wiped(behind)},
			{c.what + ", blank", func(d *drum.Drum) api.Errno {
				s, x := scroll.Blank(d, before, many, 3)
				if x == api.OK {
					leaves(t, s, many)
				} else if s != nil {
					t.Fatalf("%s: a scroll, %d", c.what, x)
				}
				return x
			}, nil, wiped(all)},
		} {
			wipes(t, how.what, how.open, how.wiped, [][]byte{margin, all, back},
				[][]byte{margin, how.stays, make([]byte, many*size-len(how.stays)), back})
		}
	}
}

// wipes lets a scroll be opened, over and over: with a fuse for each write and
// sync that it may do, and with more.
func wipes(t *testing.T, what string, open func(d *drum.Drum) api.Errno, wiped int, before, after [][]byte) {
	t.Helper()
	here, there := slices.Concat(before...), slices.Concat(after...)
	counts := wiped
	if wiped > 0 {
		counts++
	}
	at := len(here)/size - 1
	// Besides, a write waits in the last sector: whether it is sure tells of a sync.
	waits := noise(77)
	synced := with(there, at*size, waits...)
	for fuse := 1; fuse <= counts+2; fuse++ {
		d := laid(t, len(here)/size, here)
		d.Write(at, waits)
		d.Fuse(fuse)
		x := open(d)
		if fuse <= counts {
			if x != api.ErrCrash || d.On() {
				t.Fatalf("%s: with a fuse of %d: %d", what, fuse, x)
			}
			d.Start([]uint8{0})
			b := bytesOf(t, d)
			done := 0
			for k := range len(here) / size {
				sector, old, want := b[k*size:k*size+size], here[k*size:k*size+size], there[k*size:k*size+size]
				if !bytes.Equal(old, want) && bytes.Equal(sector, want) {
					done++
				} else if !bytes.Equal(sector, old) {
					t.Fatalf("%s: with a fuse of %d: sector %d is % x", what, fuse, k, sector)
				}
			}
			if done != min(fuse-1, wiped) {
				t.Fatalf("%s: with a fuse of %d, %d sectors were wiped", what, fuse, done)
			}
			continue
		}
		if x != api.OK || !d.On() {
			t.Fatalf("%s: with a fuse of %d: %d", what, fuse, x)
		}
		has(t, what, d, synced)
		d.Start(make([]uint8, 40))
		if wiped > 0 {
			has(t, what+", synced", d, synced)
		} else {
			has(t, what+", not synced", d, here)
		}
	}
}

// What Open couldn't wipe, since the power failed, it wipes the next time.
func TestOpenGoesOn(t *testing.T) {
	l := [][]byte{row(1, 3), row(2, 90)}
	for fuse := 1; fuse <= 5; fuse++ {
		for mask := range 256 {
			d := laid(t, 8, formOf(3, 0, l[0]), formOf(3, 1, l[1]), noise(1), formOf(3, 3, nil), noise(3), noise(4))
			d.Fuse(fuse)
			if s, l, x := scroll.Open(d, 0, 8, 3); x != api.ErrCrash || s != nil || len(l) != 0 {
				t.Fatalf("a scroll: %v, %d records, %d", s != nil, len(l), x)
			}
			d.Start(bytes.Repeat([]byte{uint8(mask)}, 4))
			leaves(t, opens(t, "again", d, 0, 8, 3, l), 5)
			has(t, "again", d, formOf(3, 0, l[0]), formOf(3, 1, l[1]))
		}
	}
}

// P13.2: Blank

func TestBlank(t *testing.T) {
	for _, turn := range edges {
		d := laid(t, 9, noise(1), formOf(turn, 0, row(1, 3)), formOf(turn, 1, row(2, 90)), noise(2), formOf(turn, 0, nil), noise(3), noise(4))
		s, x := scroll.Blank(d, 1, 5, turn)
		if x != api.OK {
			t.Fatal(x)
		}
		leaves(t, s, 5)
		want := [][]byte{noise(1), make([]byte, 5*size), noise(3), noise(4)}
		has(t, "blank", d, want...)
		scans(t, "blank", d, 1, 5, turn, nil, 0)
		d.Start([]uint8{0, 0, 0, 0, 0, 0})
		has(t, "blank, synced", d, want...)
		puts(t, s, []byte("first"), api.OK)
		leaves(t, s, 4)
		has(t, "put", d, noise(1), formOf(turn, 0, []byte("first")), make([]byte, 4*size), noise(3), noise(4))
		peeks(t, "put", d, 1, 5, turn, []byte("first"))
	}
}

// Two scrolls on one drum don't touch one another's stretches.
func TestScrollsAreApart(t *testing.T) {
	d := fresh(t, 10)
	a, _ := scroll.Blank(d, 0, 5, 1)
	b, _ := scroll.Blank(d, 5, 5, 2)
	for n := range 5 {
		puts(t, a, row(n, 20), api.OK)
		puts(t, b, row(n, 30), api.OK)
	}
	puts(t, a, nil, api.ErrFull)
	puts(t, b, nil, api.ErrFull)
	var want [][]byte
	for n := range 5 {
		want = append(want, formOf(1, n, row(n, 20)))
	}
	for n := range 5 {
		want = append(want, formOf(2, n, row(n, 30)))
	}
	has(t, "two scrolls", d, want...)
	if _, x := scroll.Blank(d, 0, 5, 1); x != api.OK {
		t.Fatal(x)
	}
	has(t, "one is blank", d, append([][]byte{make([]byte, 5*size)}, want[5:]...)...)
}

// What Open answers beside an error is no scroll, and may be asked all the same.
func TestNoScroll(t *testing.T) {
	opened, _, _ := scroll.Open(nil, 0, 0, 0)
	blanked, _ := scroll.Blank(nil, 0, 0, 0)
	for _, s := range []*scroll.Scroll{opened, blanked, new(scroll.Scroll)} {
		puts(t, s, nil, api.ErrCrash)
		puts(t, s, make([]byte, 70000), api.ErrCrash)
		syncs(t, s, api.ErrCrash)
		leaves(t, s, 0)
		if s.Fits([][]byte{nil}) {
			t.Error("a record fits into no scroll")
		}
	}
}
