package scroll_test

import (
	"bytes"
	"math/rand"
	"testing"

	"seisin/api"
	"seisin/drum"
	"seisin/scroll"
)

// P13.3

// book is what was put into a stretch, by the document's words: what has to be
// told, and, in its order, what may be told behind it.
type book struct{ sure, since [][]byte }

// all is what is told while the power doesn't fail.
func (k *book) all() [][]byte { return append(k.sure[:len(k.sure):len(k.sure)], k.since...) }

// told holds what is told behind a Start against the book.
func (k *book) told(t *testing.T, what string, l [][]byte) {
	t.Helper()
	all := k.all()
	if len(l) < len(k.sure) || len(l) > len(all) || !alike(l, all[:len(l)]) {
		t.Fatalf("%s: %d records are told, of %d that are sure and %d put since: %.40q", what, len(l), len(k.sure), len(k.since), l)
	}
}

// told must get these records of Scan, and of Open on this drum.
func told(t *testing.T, what string, d *drum.Drum, turn int, want [][]byte) {
	t.Helper()
	sectors := 0
	for n, b := range want {
		sectors += sectorsOf(turn, n, b)
	}
	scans(t, what, d, 0, d.Len(), turn, want, sectors)
	s := opens(t, what, d, 0, d.Len(), turn, want)
	leaves(t, s, d.Len()-sectors)
	has(t, what, d, formsOf(turn, 0, want)...)
	scans(t, what+", opened", d, 0, d.Len(), turn, want, sectors)
}

// downs are the ways in which the power fails, all of which are alike.
var downs = []func(d *drum.Drum, s *scroll.Scroll){
	func(d *drum.Drum, s *scroll.Scroll) {},
	func(d *drum.Drum, s *scroll.Scroll) { d.Fail() },
	func(d *drum.Drum, s *scroll.Scroll) { d.Fuse(1); s.Sync() },
	func(d *drum.Drum, s *scroll.Scroll) { d.Fuse(1); s.Put(row(9, 9)) },
}

// A record of one sector waits: it is told if all its words land that aren't
// zeros, and else nothing of it.
func TestEachMaskOfOneSector(t *testing.T) {
	for _, down := range downs {
		for _, many := range []int{0, 3, 20, 40, 46} {
			sure, b := [][]byte{row(1, 70), {}}, row(2, many)
			form := formOf(3, 2, b)
			for mask := range 256 {
				s, d := blank(t, 6, 3)
				puts(t, s, sure[0], api.OK)
				puts(t, s, sure[1], api.OK)
				syncs(t, s, api.OK)
				puts(t, s, b, api.OK)
				down(d, s)
				d.Start([]uint8{uint8(mask)})
				want := sure
				if landed(form, []uint8{uint8(mask)}) {
					want = [][]byte{sure[0], sure[1], b}
				}
				told(t, "a mask", d, 3, want)
			}
		}
	}
}

// landed tells whether a form stands whole of which these words landed on zeros.
func landed(form []byte, masks []uint8) bool {
	for i, x := range form {
		if x != 0 && i/size < len(masks) && masks[i/size]&(1<<(i%size/8)) == 0 {
			return false
		}
	}
	return true
}

func TestEachTwoMasksOfTwoSectors(t *testing.T) {
	sure := [][]byte{row(1, 3)}
	for _, b := range [][]byte{row(2, 99), make([]byte, 99)} {
		form, whole := formOf(3, 1, b), 0
		for first := range 256 {
			for second := range 256 {
				s, d := blank(t, 4, 3)
				puts(t, s, sure[0], api.OK)
				syncs(t, s, api.OK)
				puts(t, s, b, api.OK)
				masks := []uint8{uint8(first), uint8(second)}
				d.Start(masks)
				want := sure
				if landed(form, masks) {
					want = [][]byte{sure[0], b}
					whole++
				}
				told(t, "two masks", d, 3, want)
			}
		}
		if whole == 0 || whole > 1<<14 {
			t.Errorf("%d times it landed whole", whole)
		}
	}
}

// Of records that wait those are told up to the first one that isn't whole.
func TestNoGap(t *testing.T) {
	l := [][]byte{row(1, 3), row(2, 30), row(3, 44), row(4, 12), row(5, 20)}
	forms := formsOf(3, 0, l)
	for sure := range 3 {
		for set := range 1 << len(l) {
			for _, part := range []uint8{0, 1, 0x7f, 0xfe, 0x3c} {
				s, d := blank(t, 8, 3)
				for n, b := range l {
					puts(t, s, b, api.OK)
					if n+1 == sure {
						syncs(t, s, api.OK)
					}
				}
				var masks []uint8
				n := len(l)
				for k := len(l) - 1; k >= sure; k-- {
					mask := part
					if set&(1<<k) != 0 {
						mask = 255
					}
					if !landed(forms[k], []uint8{mask}) {
						n = k
					}
					masks = append([]uint8{mask}, masks...)
				}
				d.Start(masks)
				told(t, "no gap", d, 3, l[:n])
			}
		}
	}
}

// Where a record didn't land another one is put: nothing of the first one is
// told any more, whatever lands of the second one.
func TestAnotherOneInItsPlace(t *testing.T) {
	first, second, third := row(1, 90), row(2, 80), row(3, 8)
	for mask := range 256 {
		for _, other := range []uint8{0, 0x0f, 0x55, 0xfe, 0x7f, 255} {
			s, d := blank(t, 6, 3)
			puts(t, s, first, api.OK)
			puts(t, s, third, api.OK)
			d.Start([]uint8{uint8(mask), 0xfe, 255})
			s = opens(t, "torn", d, 0, 6, 3, nil)
			has(t, "torn, opened", d)
			puts(t, s, second, api.OK)
			d.Start([]uint8{uint8(mask), other})
			var want [][]byte
			if landed(formOf(3, 0, second), []uint8{uint8(mask), other}) {
				want = [][]byte{second}
			}
			told(t, "another one", d, 3, want)
		}
	}
}

// keeper puts records, and begins anew when the power has failed.
type keeper struct {
	t     *testing.T
	r     *rand.Rand
	d     *drum.Drum
	s     *scroll.Scroll
	k     book
	n     int
	turn  int
	fails int
}

// bytes are a record's bytes, of which many are zeros.
func (k *keeper) bytes() []byte {
	b := row(k.n, k.r.Intn(180))
	k.n++
	for range k.r.Intn(3) {
		if len(b) > 0 {
			at := k.r.Intn(len(b))
			clear(b[at:min(len(b), at+60)])
		}
	}
	return b
}

func (k *keeper) put() {
	b := k.bytes()
	switch x := k.s.Put(b); x {
	case api.OK:
		k.k.since = append(k.k.since, b)
	case api.ErrCrash:
		// As much of it as was written may yet be all that isn't zeros.
		k.k.since = append(k.k.since, b)
		k.again()
	case api.ErrFull:
		k.blank()
	default:
		k.t.Fatal(x)
	}
}

// blank goes on with the next turn, when a scroll is full.
func (k *keeper) blank() {
	k.turn++
	s, x := scroll.Blank(k.d, 0, k.d.Len(), k.turn)
	for x == api.ErrCrash {
		k.start()
		s, x = scroll.Blank(k.d, 0, k.d.Len(), k.turn)
	}
	if x != api.OK {
		k.t.Fatal(x)
	}
	k.s, k.k = s, book{}
}

func (k *keeper) sync() {
	switch x := k.s.Sync(); x {
	case api.OK:
		k.k.sure, k.k.since = k.k.all(), nil
	case api.ErrCrash:
		k.again()
	default:
		k.t.Fatal(x)
	}
}

// start lets the power come back, with any masks.
func (k *keeper) start() {
	k.fails++
	masks := make([]uint8, k.r.Intn(20))
	for i := range masks {
		masks[i] = []uint8{0, 255, 255, 255, uint8(k.r.Intn(256)), uint8(255 &^ (1 << k.r.Intn(8)))}[k.r.Intn(6)]
	}
	k.d.Start(masks)
}

// again lets the power come back, and fail again, till a scroll is open.
func (k *keeper) again() {
	k.t.Helper()
	for {
		k.start()
		l, sectors, x := scroll.Scan(k.d, 0, k.d.Len(), k.turn)
		if x != api.OK {
			k.t.Fatal(x)
		}
		k.k.told(k.t, "scan", l)
		// What is told now is sure.
		k.k = book{sure: l}
		k.d.Fuse(k.r.Intn(12))
		s, again, x := scroll.Open(k.d, 0, k.d.Len(), k.turn)
		if x == api.ErrCrash {
			continue
		}
		if x != api.OK || !alike(l, again) {
			k.t.Fatalf("%d records are opened, %d; %d were told", len(again), x, len(l))
		}
		leaves(k.t, s, k.d.Len()-sectors)
		has(k.t, "opened", k.d, formsOf(k.turn, 0, l)...)
		k.s = s
		return
	}
}

func TestWhateverThePowerDoes(t *testing.T) {
	fails, turns, most := 0, 0, 0
	for seed := range 400 {
		r := rand.New(rand.NewSource(int64(seed)))
		s, d := blank(t, 4+r.Intn(40), 1)
		k := &keeper{t: t, r: r, d: d, s: s, turn: 1}
		for range 120 {
			switch c := r.Intn(20); {
			case c < 12:
				k.put()
			case c < 16:
				k.sync()
			case c < 17:
				d.Fail()
				k.again()
			case c < 18:
				k.again()
			default:
				d.Fuse(1 + r.Intn(8))
			}
			if d.On() {
				told := k.k.all()
				sectors := len(bytes.Join(formsOf(k.turn, 0, told), nil)) / size
				scans(t, "while it is on", d, 0, d.Len(), k.turn, told, sectors)
				leaves(t, k.s, d.Len()-sectors)
			}
			most = max(most, len(k.k.sure))
		}
		fails, turns = fails+k.fails, turns+k.turn-1
	}
	if fails < 5000 || turns < 500 || most < 10 {
		t.Errorf("the power failed %d times, %d were full, %d were sure", fails, turns, most)
	}
}
