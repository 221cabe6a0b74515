package chest_test

import (
	"bytes"
	"fmt"
	"math/rand"
	"slices"
	"testing"

	"seisin/api"
	"seisin/chest"
	"seisin/drum"
	"seisin/scroll"
)

// P14.1

func TestOpenErrors(t *testing.T) {
	unopened(t, "nil", nil, api.ErrArg)
	unopened(t, "no such drum", drum.New(0), api.ErrArg)
	unopened(t, "no such drum", drum.New(most+1), api.ErrArg)
	one := laid(t, 1, formOf(1, 0, []byte("head")))
	unopened(t, "one sector", one, api.ErrArg)
	has(t, "one sector", one, formOf(1, 0, []byte("head")))
	one.Fail()
	unopened(t, "one sector, off", one, api.ErrArg)
	for _, sectors := range []int{2, 3, 4, 7, most} {
		d := laid(t, sectors)
		d.Fail()
		unopened(t, "off", d, api.ErrDown)
		d.Start(nil)
		has(t, "off", d)
		opens(t, "on", d)
		d.Fail()
		unopened(t, "off, a chest on it", d, api.ErrDown)
		d.Start(nil)
		has(t, "off, a chest on it", d, formOf(1, 0, nil))
	}
}

// A drum without a chest has an empty one from then on.
func TestNoChestAsYet(t *testing.T) {
	for _, sectors := range []int{2, 3, 4, 5, 6, 7, 8, 9, 11, 100, 2047, 2048, 2049, 4095, most - 1, most} {
		d, k := laid(t, sectors), fresh(sectors)
		k.on(t, "a new drum", opens(t, "a new drum", d), d)
		has(t, "a new drum", d, formOf(1, 0, nil))
		d.Start([]uint8{0, 0, 0})
		has(t, "a new drum, synced", d, formOf(1, 0, nil))
		k.on(t, "a new drum again", opens(t, "a new drum again", d), d)
		has(t, "a new drum again", d, formOf(1, 0, nil))
	}
}

// The smallest chests have room for a head, and for nothing else.
func TestSidesOfOneSector(t *testing.T) {
	for _, sectors := range []int{2, 3} {
		d, k := laid(t, sectors), fresh(sectors)
		c := opens(t, "one sector a side", d)
		for turn := range 5 {
			keeps(t, c, nil, api.ErrFull)
			turns(t, c, row(turn, 60), api.ErrFull)
			head := filling(k.turn+1, 0, 1)
			turns(t, c, head, k.turned(head))
			k.on(t, "one sector a side", c, d)
			k.on(t, "one sector a side, anew", opens(t, "anew", d), d)
		}
	}
}

// The greatest chest.
func TestSidesOfTheMostSectors(t *testing.T) {
	for _, sectors := range []int{most, most - 1} {
		d, k := laid(t, sectors), fresh(sectors)
		c := opens(t, "the greatest one", d)
		for n := range 3 {
			b := filling(1, n+1, longest)
			keeps(t, c, more(b), api.ErrLong)
			keeps(t, c, b, k.keep(b))
		}
		b := filling(1, 4, k.left())
		keeps(t, c, more(b), api.ErrFull)
		keeps(t, c, b, k.keep(b))
		keeps(t, c, nil, api.ErrFull)
		k.on(t, "the greatest one", c, d)
		syncs(t, c, api.OK)
		d.Start(nil)
		c = opens(t, "the greatest one, anew", d)
		k.on(t, "the greatest one, anew", c, d)
		head := filling(2, 0, longest)
		turns(t, c, more(head), api.ErrLong)
		turns(t, c, head, k.turned(head))
		k.on(t, "the greatest one, turned", c, d)
	}
}

// found is what may stand on a side.
type found struct {
	what string
	b    []byte
	// turn is 0, if the side can't be live; records, of how many sectors, are what
	// it tells else.
	turn    int
	records [][]byte
	sectors int
}

// side is a found side of records, and of other bytes behind them.
func side(what string, turn int, records [][]byte, behind ...[]byte) found {
	forms := formsOf(turn, records...)
	return found{what, slices.Concat(forms, slices.Concat(behind...)), turn, records, len(forms) / size}
}

// sides are what may stand on a side of so many sectors.
func sides(many int) []found {
	l := []found{
		{what: "zeros"},
		{what: "noise", b: noise(1)},
		{what: "turn 0", b: formOf(0, 0, []byte("0"))},
		{what: "number 1", b: formOf(9, 1, []byte("1"))},
		{what: "number 2^40", b: formOf(9, highest, []byte("1"))},
		{what: "a torn one", b: with(formOf(9, 0, row(1, 40)), 32, 0, 0, 0, 0, 0, 0, 0, 0)},
		{what: "another sum", b: with(formOf(9, 0, row(1, 40)), 4, 0)},
	}
	for _, turn := range []int{1, 2, 3, 255, 256, 1 << 32, highest - 1, highest} {
		l = append(l, side(fmt.Sprint("turn ", turn), turn, [][]byte{fmt.Append(nil, turn)}))
	}
	l = append(l, side("an empty head", 2, [][]byte{nil}), side("a full side", 256, [][]byte{filling(256, 0, many)}))
	if many < 4 {
		return l
	}
	l = append(l,
		found{what: "noise first", b: slices.Concat(noise(1), formOf(9, 0, []byte("9")))},
		found{what: "zeros first", b: slices.Concat(zeros(1), formOf(9, 0, []byte("9")))},
		found{what: "noise behind noise", b: bytes.Repeat(noise(2), many)},
		found{what: "turn 0 with notes", b: slices.Concat(formsOf(0, nil, nil), formOf(9, 0, nil), noise(1))},
		side("notes", 2, [][]byte{row(1, 9), nil, row(3, 90)}),
		side("noise behind", 3, [][]byte{row(1, 9), row(2, 20)}, noise(1), zeros(1)),
		side("noise at the end", 3, [][]byte{row(1, 9)}, zeros(many-2), noise(1)),
		side("another turn behind", 3, [][]byte{row(1, 9)}, formOf(2, 1, nil), formOf(4, 1, nil)),
		side("a greater head behind", 2, [][]byte{row(1, 9)}, formOf(9, 0, nil)),
		side("a gap", 255, [][]byte{row(1, 9), nil}, formOf(255, 3, nil)),
		side("a gap of zeros", 256, [][]byte{row(1, 9)}, zeros(1), formOf(256, 1, nil)),
		side("a torn note", 256, [][]byte{row(1, 9)}, with(formOf(256, 1, row(2, 90)), 70, 0), formOf(256, 2, nil)),
	)
	return l
}

// wiped is how many of these sectors are to be written with zeros.
func wiped(b []byte) int {
	many := 0
	for sector := range slices.Chunk(b, size) {
		if !bytes.Equal(sector, zeros(1)) {
			many++
		}
	}
	return many
}

// Whatever stands on both sides: the live one is that of the greater turn, or
// side 0; all else stays, but what stands behind the live side's records.
func TestWhichSideIsLive(t *testing.T) {
	for _, sectors := range []int{2, 3, 8, 9} {
		many := sectors / 2
		live := [3]int{}
		for _, a := range sides(many) {
			for _, b := range sides(many) {
				both := []found{a, b}
				k := kept{many: many, turn: 1}
				changed, which := wiped(a.b), 2
				if a.turn > 0 || b.turn > 0 {
					which = 0
					if b.turn > a.turn {
						which = 1
					}
					f := both[which]
					k = kept{many, which, f.turn, f.records[0], f.records[1:]}
					changed = wiped(f.b[f.sectors*size:])
				}
				live[which]++
				openedOf(t, fmt.Sprintf("%d sectors, %s, %s", sectors, a.what, b.what), sectors, both, k, which == 2, changed)
			}
		}
		if min(live[0], live[1], live[2]) < 40 {
			t.Error("too few of one kind", live)
		}
	}
}

// openedOf opens chests on drums on which this is found.
func openedOf(t *testing.T, what string, sectors int, both []found, k kept, none bool, changed int) {
	t.Helper()
	padded := func(b []byte) []byte { return append(bytes.Clone(b), make([]byte, k.many*size-len(b))...) }
	all := [][]byte{padded(both[0].b), padded(both[1].b), noise(50)}[:2+sectors%2]
	d := laid(t, sectors, all...)
	c := opens(t, what, d)
	all[k.live] = k.side()
	has(t, what, d, all...)
	k.on(t, what, c, d)
	want := changed
	if changed > 0 {
		want++
	}
	if none {
		// The head's sector, and its sync.
		want += 2
	}
	got := counts(t, what, func() (*drum.Drum, func() api.Errno) {
		d := laid(t, sectors, padded(both[0].b), padded(both[1].b))
		return d, func() api.Errno {
			c, x := chest.Open(d)
			if x != api.OK && c != nil {
				t.Fatalf("%s: a chest beside an error", what)
			}
			return x
		}
	})
	if got != want {
		t.Fatalf("%s: %d writes and syncs, not %d", what, got, want)
	}
	d.Start(make([]uint8, 20))
	has(t, what+", synced", d, all...)
	k.goesOn(t, what, opens(t, what, d), d)
}

// goesOn keeps a note, if there is room, and turns, if there is a turn; each on
// the right side.
func (k *kept) goesOn(t *testing.T, what string, c *chest.Chest, d *drum.Drum) {
	t.Helper()
	before := bytesOf(t, d)
	k.on(t, what+", anew", c, d)
	keeps(t, c, []byte("more"), k.keep([]byte("more")))
	k.on(t, what+", kept", c, d)
	has(t, what+", kept", d, with(before, k.live*k.many*size, k.side()...))
	before = bytesOf(t, d)
	turns(t, c, []byte("next"), k.turned([]byte("next")))
	k.on(t, what+", turned", c, d)
	has(t, what+", turned", d, with(before, k.live*k.many*size, k.side()...))
}

// A record that isn't within its side is none of it.
func TestARecordBeyondItsSide(t *testing.T) {
	for _, sectors := range []int{3, 5, 7, 9} {
		many := sectors / 2
		long := filling(5, 0, many+1)
		d := laid(t, sectors, formOf(5, 0, long))
		k := fresh(sectors)
		c := opens(t, "beyond side 0", d)
		k.on(t, "beyond side 0", c, d)
		has(t, "beyond side 0", d, formOf(1, 0, nil), zeros(many-1), formOf(5, 0, long)[many*size:])

		d = laid(t, sectors, zeros(many), formOf(5, 0, long))
		c = opens(t, "beyond side 1", d)
		k.on(t, "beyond side 1", c, d)
		has(t, "beyond side 1", d, formOf(1, 0, nil), zeros(many-1), formOf(5, 0, long))

		if many > 1 {
			d = laid(t, sectors, formsOf(5, []byte("head"), filling(5, 1, many)))
			k = kept{many: many, turn: 5, head: []byte("head")}
			c = opens(t, "a note beyond side 0", d)
			k.on(t, "a note beyond side 0", c, d)
			has(t, "a note beyond side 0", d, k.side(), formOf(5, 1, filling(5, 1, many))[(many-1)*size:])
		}
	}
}

// What another number of sectors would take for a side is none.
func TestTheSidesHangOnTheDrum(t *testing.T) {
	for sectors := 4; sectors < 12; sectors++ {
		for at := range sectors {
			d := laid(t, sectors, zeros(at), formOf(5, 0, []byte("head")))
			k := fresh(sectors)
			if at == 0 || at == k.many {
				k = kept{many: k.many, live: at / k.many, turn: 5, head: []byte("head")}
			}
			k.on(t, "a head somewhere", opens(t, "a head somewhere", d), d)
		}
	}
}

// What waits on a drum counts as what is there.
func TestWhatWaitsIsOpened(t *testing.T) {
	d := laid(t, 8)
	c := opens(t, "waits", d)
	keeps(t, c, []byte("a"), api.OK)
	k := fresh(8)
	k.keep([]byte("a"))
	k.on(t, "waits", opens(t, "waits", d), d)
	d.Start([]uint8{0})
	k = fresh(8)
	k.on(t, "waited", opens(t, "waited", d), d)
}

// Wrong inputs: drums with any bytes.

// someBytes are any bytes of so many sectors, many of which are of records.
func someBytes(r *rand.Rand, sectors int) []byte {
	var b []byte
	for len(b) < sectors*size {
		turn, n := []int{0, 1, 2, 3, highest - 1, highest}[r.Intn(6)], r.Intn(3)
		switch r.Intn(7) {
		case 0:
			b = append(b, zeros(1+r.Intn(3))...)
		case 1:
			b = append(b, noise(r.Intn(50))...)
		case 2:
			b = append(b, bytes.Repeat([]byte{uint8(r.Intn(256))}, size)...)
		case 3:
			form := formOf(turn, n, row(r.Intn(9), r.Intn(120)))
			form[r.Intn(len(form))] ^= 1 << r.Intn(8)
			b = append(b, form...)
		case 4:
			b = append(b, formsOf(turn, row(1, r.Intn(120)), row(2, r.Intn(90)))...)
		default:
			b = append(b, formOf(turn, n*r.Intn(2), row(r.Intn(9), r.Intn(120)))...)
		}
	}
	return b[:sectors*size]
}

// keptOn is the chest that is on a drum, by what layer 13 tells of both sides.
func keptOn(t *testing.T, d *drum.Drum) kept {
	t.Helper()
	k := kept{many: d.Len() / 2}
	for live := range 2 {
		turn, head, ok := scroll.Peek(d, live*k.many, k.many)
		if !ok || turn < 1 || turn <= k.turn {
			continue
		}
		l, _, x := scroll.Scan(d, live*k.many, k.many, turn)
		if x != api.OK || len(l) == 0 || !bytes.Equal(l[0], head) {
			t.Fatalf("%d records, %d, of a side with a head", len(l), x)
		}
		k.live, k.turn, k.head, k.notes = live, turn, head, l[1:]
	}
	if k.turn == 0 {
		return fresh(d.Len())
	}
	return k
}

func TestAnyBytes(t *testing.T) {
	lives := map[string]int{}
	for seed := range 3000 {
		r := rand.New(rand.NewSource(int64(seed)))
		sectors := 2 + r.Intn(14)
		b := someBytes(r, sectors)
		if many := sectors / 2; r.Intn(2) == 0 {
			copy(b[many*size:], someBytes(r, sectors-many))
		}
		d := laid(t, sectors, b)
		k := keptOn(t, d)
		c := opens(t, "any bytes", d)
		k.on(t, "any bytes", c, d)
		has(t, "any bytes", d, with(b, k.live*k.many*size, k.side()...))
		d.Start(make([]uint8, 20))
		has(t, "any bytes, synced", d, with(b, k.live*k.many*size, k.side()...))
		lives[fmt.Sprint(k.live, k.turn > 1, len(k.notes) > 0)]++
		k.goesOn(t, "any bytes", opens(t, "any bytes", d), d)
	}
	for _, many := range lives {
		if many < 15 {
			t.Error("too few of one kind", lives)
		}
	}
	if len(lives) < 7 {
		t.Error("too few kinds", lives)
	}
}

// Of a chest's own drum any bit may be another one: what is told is a front of
// what was there, or the other side's, or nothing.
func TestAnyBitTurned(t *testing.T) {
	_, d, k := filled(t, 10)
	whole := bytesOf(t, d)
	for at := range whole {
		b := with(whole, at, whole[at]^1<<(at%8))
		d := laid(t, 10, b)
		want := keptOn(t, d)
		c := opens(t, "a bit", d)
		want.on(t, "a bit", c, d)
		if want.turn == 2 && !alike(want.notes, k.notes[:len(want.notes)]) || want.turn == 1 && (want.live != 0 || len(want.head) > 0) {
			t.Fatalf("byte %d: turn %d, %d notes", at, want.turn, len(want.notes))
		}
	}
}
