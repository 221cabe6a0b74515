package scroll_test

import (
	"bytes"
	"encoding/binary"
	"math"
	"math/rand"
	"slices"
	"strconv"
	"testing"

	"seisin/api"
	"seisin/drum"
	"seisin/scroll"
)

// recordBy reads by the document's words the record with which bytes begin: its
// turn, its number, its bytes, and how many bytes its form has; 0, if there is none.
func recordBy(b []byte) (turn, n int, text []byte, whole int) {
	if len(b) < size {
		return 0, 0, nil, 0
	}
	many := int(binary.BigEndian.Uint32(b))
	whole = (12 + many + 63) / 64 * 64
	if whole > len(b) || whole > longest*size {
		return 0, 0, nil, 0
	}
	rest, there := b[12:12+many], true
	num := func() int {
		if !there || len(rest) == 0 || rest[0] > 8 || int(rest[0]) >= len(rest) {
			there = false
			return 0
		}
		end := 1 + int(rest[0])
		n := binary.BigEndian.Uint64(append(make([]byte, 9-end), rest[1:end]...))
		rest = rest[end:]
		there = n <= highest
		return int(n)
	}
	// A number that begins with a 0, and bytes behind the text, make another form.
	turn, n = num(), num()
	end := num()
	if !there || end > len(rest) || !bytes.Equal(formOf(turn, n, rest[:end]), b[:whole]) {
		return 0, 0, nil, 0
	}
	return turn, n, rest[:end], whole
}

// recordsBy are by the document's words the records of a turn, and how many
// sectors they have.
func recordsBy(b []byte, turn int) (l [][]byte, sectors int) {
	for {
		its, n, text, whole := recordBy(b)
		if whole == 0 || its != turn || n != len(l) {
			return l, sectors
		}
		l = append(l, text)
		sectors += whole / size
		b = b[whole:]
	}
}

// scans must tell these records.
func scans(t *testing.T, what string, d *drum.Drum, from, many, turn int, want [][]byte, sectors int) {
	t.Helper()
	l, n, x := scroll.Scan(d, from, many, turn)
	if x != api.OK || !alike(l, want) || n != sectors {
		t.Fatalf("%s: of %d sectors from %d on, turn %d: %d records of %d sectors, %d; not %d of %d: %.40q", what, many, from, turn, len(l), n, x, len(want), sectors, l)
	}
}

// unscanned must get this error, and nothing else.
func unscanned(t *testing.T, what string, d *drum.Drum, from, many, turn int, want api.Errno) {
	t.Helper()
	if l, n, x := scroll.Scan(d, from, many, turn); x != want || len(l) != 0 || n != 0 {
		t.Fatalf("%s: of %d sectors from %d on, turn %d: %d records of %d sectors, %d, not %d", what, many, from, turn, len(l), n, x, want)
	}
}

// peeks must tell the first record so.
func peeks(t *testing.T, what string, d *drum.Drum, from, many, turn int, want []byte) {
	t.Helper()
	if got, b, ok := scroll.Peek(d, from, many); !ok || got != turn || !bytes.Equal(b, want) {
		t.Fatalf("%s: of %d sectors from %d on: turn %d, %.40q, %v, not turn %d, %.40q", what, many, from, got, b, ok, turn, want)
	}
}

func unpeeked(t *testing.T, what string, d *drum.Drum, from, many int) {
	t.Helper()
	if got, b, ok := scroll.Peek(d, from, many); ok || got != 0 || len(b) != 0 {
		t.Fatalf("%s: of %d sectors from %d on: turn %d, %.40q, %v", what, many, from, got, b, ok)
	}
}

// seen holds what Scan and Peek tell of a stretch against the document's words.
func seen(t *testing.T, what string, d *drum.Drum, from, many int, turns ...int) {
	t.Helper()
	b := bytesOf(t, d)[from*size : (from+many)*size]
	for _, turn := range turns {
		want, sectors := recordsBy(b, turn)
		scans(t, what, d, from, many, turn, want, sectors)
	}
	if turn, n, text, whole := recordBy(b); whole > 0 && n == 0 {
		peeks(t, what, d, from, many, turn, text)
	} else {
		unpeeked(t, what, d, from, many)
	}
}

// P13.1: Scan and Peek of ordinary stretches

func TestRecordsAreTold(t *testing.T) {
	for _, turn := range edges {
		var l [][]byte
		var forms []byte
		for n, many := range []int{3, 0, 60, 1, 500, 64, 52, 0} {
			l = append(l, row(n, many))
			forms = append(forms, formOf(turn, n, l[n])...)
			sectors := len(forms) / size
			d := laid(t, sectors+3, forms)
			scans(t, "told", d, 0, sectors+3, turn, l, sectors)
			scans(t, "just filled", d, 0, sectors, turn, l, sectors)
			peeks(t, "told", d, 0, sectors+3, turn, l[0])
			scans(t, "another turn", d, 0, sectors, (turn+1)%highest, nil, 0)
		}
	}
}

func TestWhereAStretchIs(t *testing.T) {
	a, b := [][]byte{row(1, 10), row(2, 70), row(3, 200)}, [][]byte{row(4, 5)}
	d := fresh(t, 20)
	lay(t, d, 4, formOf(7, 0, a[0]), formOf(7, 1, a[1]), formOf(7, 2, a[2]), formOf(7, 0, b[0]))
	all := 1 + 2 + 4
	scans(t, "whole", d, 4, all, 7, a, all)
	scans(t, "more", d, 4, 16, 7, a, all)
	scans(t, "the next one", d, 4+all, 1, 7, b, 1)
	scans(t, "the next one", d, 4+all, 20-4-all, 7, b, 1)
	scans(t, "ahead", d, 0, 20, 7, nil, 0)
	scans(t, "ahead", d, 3, 17, 7, nil, 0)
	peeks(t, "the next one", d, 4+all, 2, 7, b[0])
	for at := range 21 {
		for many := range 21 - at {
			seen(t, "anywhere", d, at, many, 7, 6)
		}
	}
}

// A record stands whole within the stretch, or it is none.
func TestARecordThatLeavesTheStretch(t *testing.T) {
	l := [][]byte{row(1, 10), row(2, 300)}
	d := laid(t, 9, formOf(2, 0, l[0]), formOf(2, 1, l[1]))
	want := sectorsOf(2, 1, l[1])
	for many := 1; many <= want; many++ {
		scans(t, "cut", d, 0, many, 2, l[:1], 1)
	}
	scans(t, "whole", d, 0, 1+want, 2, l, 1+want)
	for _, sectors := range []int{1, 2, 3, 1023, longest} {
		b := row(sectors, filling(5, 0, sectors))
		for _, room := range []int{0, 2} {
			d := laid(t, sectors+room, formOf(5, 0, b))
			peeks(t, "whole", d, 0, sectors, 5, b)
			peeks(t, "more", d, 0, sectors+room, 5, b)
			unpeeked(t, "cut", d, 0, sectors-1)
			scans(t, "whole", d, 0, sectors, 5, [][]byte{b}, sectors)
			scans(t, "cut", d, 0, sectors-1, 5, nil, 0)
		}
	}
}

func TestTheWholeDrum(t *testing.T) {
	var l [][]byte
	var forms []byte
	for n := range most {
		l = append(l, row(n, n%40))
		forms = append(forms, formOf(9, n, l[n])...)
	}
	if len(forms) != most*size {
		t.Fatal("each of these has one sector")
	}
	d := laid(t, most, forms)
	scans(t, "whole drum", d, 0, most, 9, l, most)
	scans(t, "but one", d, 0, most-1, 9, l[:most-1], most-1)
	peeks(t, "whole drum", d, 0, most, 9, l[0])
	unscanned(t, "one more", d, 0, most+1, 9, api.ErrArg)
	unpeeked(t, "one more", d, 0, most+1)
	var great [][]byte
	forms = nil
	for n := range most / longest {
		great = append(great, row(n, filling(9, n, longest)))
		forms = append(forms, formOf(9, n, great[n])...)
	}
	d = laid(t, most, forms)
	scans(t, "great ones", d, 0, most, 9, great, most)
	scans(t, "great ones", d, 0, most-1, 9, great[:7], most-longest)
	peeks(t, "great ones", d, 0, most, 9, great[0])
}

func TestNoSectors(t *testing.T) {
	d := laid(t, 3, formOf(1, 0, nil), formOf(1, 1, nil), formOf(1, 2, nil))
	for from := range 4 {
		scans(t, "no sectors", d, from, 0, 1, nil, 0)
		unpeeked(t, "no sectors", d, from, 0)
	}
	unscanned(t, "no sectors", d, 4, 0, 1, api.ErrArg)
	unpeeked(t, "no sectors", d, 4, 0)
}

// What waits is read as what is sure is.
func TestWhatWaitsIsTold(t *testing.T) {
	d := laid(t, 4, formOf(1, 0, []byte("old")), formOf(1, 1, []byte("old")))
	d.Write(0, formOf(1, 0, []byte("new")))
	scans(t, "waiting", d, 0, 4, 1, [][]byte{[]byte("new"), []byte("old")}, 2)
	peeks(t, "waiting", d, 0, 4, 1, []byte("new"))
	d.Start([]uint8{0})
	scans(t, "lost", d, 0, 4, 1, [][]byte{[]byte("old"), []byte("old")}, 2)
}

// P13.1: the errors, in their order

func TestNoStretch(t *testing.T) {
	d := laid(t, 8, formOf(1, 0, []byte("ab")))
	for _, c := range []struct{ from, many int }{
		{-1, 0}, {-1, 1}, {-1, 9}, {0, -1}, {3, -1}, {8, -1}, {-1, -1}, {0, 9}, {1, 8}, {5, 4}, {8, 1}, {9, 0}, {9, -1}, {10, -2},
		{0, math.MaxInt}, {1, math.MaxInt}, {8, math.MaxInt}, {math.MaxInt, 0}, {math.MaxInt, 1}, {math.MaxInt, math.MaxInt},
		{math.MinInt, 0}, {0, math.MinInt}, {math.MinInt, math.MinInt}, {math.MinInt, math.MaxInt}, {math.MaxInt, math.MinInt},
		{1 << 32, 1}, {0, 1<<32 + 1}, {1 << 62, 1 << 62}, {math.MaxInt - 6, 8}, {-7, 8}, {9, -8},
	} {
		unscanned(t, "no stretch", d, c.from, c.many, 1, api.ErrArg)
		unpeeked(t, "no stretch", d, c.from, c.many)
	}
	scans(t, "a stretch", d, 0, 8, 1, [][]byte{[]byte("ab")}, 1)
	scans(t, "a stretch", d, 7, 1, 1, nil, 0)
}

func TestErrorsOfScan(t *testing.T) {
	on := laid(t, 8, formOf(0, 0, []byte("ab")))
	off := laid(t, 8, formOf(0, 0, []byte("ab")))
	off.Fail()
	for _, turn := range oddNumbers {
		for from := range 2 {
			unscanned(t, "turn outside", on, from, 4, turn, api.ErrArg)
			unscanned(t, "turn outside, off", off, from, 4, turn, api.ErrArg)
			unscanned(t, "turn outside, no sectors", on, from, 0, turn, api.ErrArg)
		}
	}
	for _, turn := range append(slices.Clone(oddNumbers), 0, 1, highest) {
		unscanned(t, "nil", nil, 0, 0, turn, api.ErrArg)
		unscanned(t, "nil", nil, 0, 1, turn, api.ErrArg)
		unscanned(t, "nil", nil, -1, 1, turn, api.ErrArg)
		unscanned(t, "below 0, off", off, -1, 1, turn, api.ErrArg)
		unscanned(t, "below 0, off", off, 0, -1, turn, api.ErrArg)
		unscanned(t, "beyond, off", off, 0, 9, turn, api.ErrArg)
		unscanned(t, "beyond, off", off, 8, 1, turn, api.ErrArg)
	}
	for _, turn := range edges {
		unscanned(t, "off", off, 0, 8, turn, api.ErrDown)
		unscanned(t, "off, no sectors", off, 0, 0, turn, api.ErrDown)
		unscanned(t, "off, no sectors", off, 8, 0, turn, api.ErrDown)
		want, sectors := recordsBy(formOf(0, 0, []byte("ab")), turn)
		scans(t, "on", on, 0, 8, turn, want, sectors)
	}
	unpeeked(t, "nil", nil, 0, 0)
	unpeeked(t, "nil", nil, 0, 1)
	unpeeked(t, "off", off, 0, 8)
	unpeeked(t, "off", off, 0, 0)
	unpeeked(t, "off, beyond", off, 0, 9)
	off.Start(nil)
	scans(t, "on again", off, 0, 8, 0, [][]byte{[]byte("ab")}, 1)
	peeks(t, "on again", off, 0, 8, 0, []byte("ab"))
}

// P13.1: where a scan ends

// with are bytes of which one part is another.
func with(b []byte, at int, part ...byte) []byte {
	b = bytes.Clone(b)
	copy(b[at:], part)
	return b
}

// ill are the forms, of a record of this turn and number, in each of which
// something isn't as it has to be.
func ill(turn, n int, b []byte) map[string][]byte {
	form, fields := formOf(turn, n, b), fieldsOf(turn, n, b)
	its, number := numOf(uint64(turn)), numOf(uint64(n))
	text := append(numOf(uint64(len(b))), b...)
	end := 12 + len(fields)
	long := with(sealed(append(bytes.Clone(fields), 0)), 4, sumOf(fields)...)
	l := map[string][]byte{
		"another turn":            formOf(turn+1, n, b),
		"another turn, less":      formOf(turn-1, n, b),
		"another number":          formOf(turn, n+1, b),
		"a number far off":        formOf(turn, highest, b),
		"turn and number":         formOf(n, turn, b),
		"length less":             with(form, 0, 0, 0, byte((len(fields)-1)>>8), byte(len(fields)-1)),
		"length more":             with(form, 0, 0, 0, byte((len(fields)+1)>>8), byte(len(fields)+1)),
		"no length":               with(form, 0, 0, 0, 0, 0),
		"the greatest length":     with(form, 0, 255, 255, 255, 255),
		"a length with a sign":    with(form, 0, 128),
		"a length of 16 MiB":      with(form, 0, 1),
		"a length of 64 KiB":      with(form, 0, 0, 1),
		"length more, sum of one": long,
		"no sum":                  with(form, 4, make([]byte, 8)...),
		"sum's first byte":        with(form, 4, form[4]^1),
		"sum's last byte":         with(form, 11, form[11]^128),
		"turned":                  slices.Concat(form[4:12], form[:4], form[12:]),
		"zeros":                   make([]byte, len(form)),
		"ones":                    bytes.Repeat([]byte{255}, len(form)),
		"no fields":               sealed(nil),
		"turn alone":              sealed(its),
		"turn and number alone":   sealed(slices.Concat(its, number)),
		"no text":                 sealed(slices.Concat(its, number, numOf(1))),
		"text too short":          sealed(slices.Concat(its, number, numOf(uint64(len(b)+1)), b)),
		"text too long":           sealed(append(bytes.Clone(fields), 7)),
		"a zero behind the text":  sealed(append(bytes.Clone(fields), 0)),
		"a field more":            sealed(slices.Concat(fields, its)),
		"turn begins with a 0":    sealed(slices.Concat([]byte{its[0] + 1, 0}, its[1:], number, text)),
		"number begins with a 0":  sealed(slices.Concat(its, []byte{number[0] + 1, 0}, number[1:], text)),
		"length begins with a 0":  sealed(slices.Concat(its, number, []byte{text[0] + 1, 0}, text[1:])),
		"turn of nine bytes":      sealed(slices.Concat([]byte{9}, make([]byte, 9), number, text)),
		"turn above the highest":  sealed(slices.Concat(numOf(highest+1), number, text)),
		"number above it":         sealed(slices.Concat(its, numOf(highest+1), text)),
		"turn with a sign":        sealed(slices.Concat(numOf(math.MaxUint64), number, text)),
		"number with a sign":      sealed(slices.Concat(its, numOf(math.MaxUint64-1), text)),
		"turn gone round":         sealed(slices.Concat(numOf(1<<63+uint64(turn)), number, text)),
		"number gone round":       sealed(slices.Concat(its, numOf(1<<63+uint64(n)), text)),
		"length with a sign":      sealed(slices.Concat(its, number, numOf(math.MaxUint64), b)),
		"length gone round":       sealed(slices.Concat(its, number, numOf(1<<63+uint64(len(b))), b)),
	}
	for at := end; at < len(form); at++ {
		l["a bit behind the fields, "+strconv.Itoa(at)] = with(form, at, 1)
		l["the highest bit behind the fields, "+strconv.Itoa(at)] = with(form, at, 128)
	}
	return l
}

// A scan ends at each of these, be what stands behind it as it may.
func TestWhereAScanEnds(t *testing.T) {
	for _, many := range []int{0, 2, 40, 100} {
		b := row(many, many)
		good := [][]byte{row(7, 3), row(8, 77)}
		front := slices.Concat(formOf(5, 0, good[0]), formOf(5, 1, good[1]))
		for what, form := range ill(5, 2, b) {
			behind := formOf(5, 3, []byte("behind"))
			d := laid(t, 12, front, form, behind)
			scans(t, what, d, 0, 12, 5, good, 3)
			seen(t, what, d, 0, 12, 4, 6)
			d = laid(t, 12, front, form, formOf(5, 2, []byte("two")))
			scans(t, what, d, 0, 12, 5, good, 3)
		}
		d := laid(t, 12, front, formOf(5, 2, b), formOf(5, 3, []byte("behind")))
		scans(t, "none is ill", d, 0, 12, 5, append(slices.Clone(good), b, []byte("behind")), 4+sectorsOf(5, 2, b))
	}
}

// Peek tells a first record of any turn, but of the number 0 alone.
func TestWhatIsPeeked(t *testing.T) {
	for _, turn := range edges {
		d := laid(t, 8, formOf(turn, 0, []byte("ab")), formOf(turn+5, 0, nil))
		peeks(t, "first", d, 0, 8, turn, []byte("ab"))
		for _, n := range edges[1:] {
			unpeeked(t, "another number", laid(t, 8, formOf(turn, n, []byte("ab"))), 0, 8)
		}
	}
	peeks(t, "no bytes", laid(t, 1, formOf(0, 0, nil)), 0, 1, 0, nil)
	unpeeked(t, "zeros", fresh(t, 8), 0, 8)
	for _, many := range []int{0, 2, 40, 100} {
		b := row(many, many)
		for what, form := range ill(5, 0, b) {
			d := laid(t, 12, form, formOf(5, 0, b))
			scans(t, what, d, 0, 12, 5, nil, 0)
			switch what {
			case "another turn":
				peeks(t, what, d, 0, 12, 6, b)
			case "another turn, less":
				peeks(t, what, d, 0, 12, 4, b)
			default:
				unpeeked(t, what, d, 0, 12)
			}
		}
	}
}

// A record that has more sectors than it may is none, though it has its own sum.
func TestMoreSectorsThanARecordHas(t *testing.T) {
	many := filling(5, 0, longest)
	for _, more := range []int{1, 64, 65, 1000, 20000} {
		d := laid(t, 1500, formOf(5, 0, row(more, many+more)))
		scans(t, "too long", d, 0, 1500, 5, nil, 0)
		unpeeked(t, "too long", d, 0, 1500)
	}
	d := laid(t, 2100, formOf(5, 0, row(0, many)), formOf(5, 1, row(1, many+1)))
	scans(t, "the second one too long", d, 0, 2100, 5, [][]byte{row(0, many)}, longest)
	peeks(t, "the second one too long", d, 0, 2100, 5, row(0, many))
}

// A bit that is turned in a record ends a scan there.
func TestATurnedBitIsSeen(t *testing.T) {
	l := [][]byte{row(1, 10), row(2, 100), row(3, 44), {}}
	var forms []byte
	var starts []int
	for n, b := range l {
		starts = append(starts, len(forms))
		forms = append(forms, formOf(3, n, b)...)
	}
	sectors := len(forms) / size
	d := laid(t, sectors, forms)
	for bit := range 8 * len(forms) {
		at := bit / 8 / size
		sector := forms[at*size : at*size+size]
		d.Write(at, with(sector, bit/8%size, sector[bit/8%size]^1<<(bit%8)))
		n := 0
		for n+1 < len(starts) && starts[n+1] <= bit/8 {
			n++
		}
		scans(t, "turned", d, 0, sectors, 3, l[:n], starts[n]/size)
		d.Start([]uint8{0})
	}
	scans(t, "as it was", d, 0, sectors, 3, l, sectors)
}

// P13.1: drums with any bytes

func TestAnyBytes(t *testing.T) {
	r := rand.New(rand.NewSource(13))
	for range 3000 {
		d := fresh(t, 1+r.Intn(12))
		b := make([]byte, d.Len()*size)
		r.Read(b)
		for at := range d.Len() {
			switch r.Intn(4) {
			case 0:
				clear(b[at*size : at*size+size])
			case 1:
				copy(b[at*size:], []byte{0, 0, byte(r.Intn(3)), byte(r.Intn(256))})
			}
		}
		lay(t, d, 0, b)
		from := r.Intn(d.Len())
		seen(t, "any bytes", d, from, r.Intn(d.Len()-from+1), 0, r.Intn(300))
	}
}

// Sectors of records, cut, doubled and set in any order.
func TestAnyOrderOfSectors(t *testing.T) {
	r := rand.New(rand.NewSource(31))
	told := 0
	for range 4000 {
		var pool, b []byte
		for n := range 4 {
			pool = append(pool, formOf(r.Intn(5)/4, n, row(r.Intn(9), r.Intn(150)))...)
		}
		d := fresh(t, 12)
		for at := r.Intn(3) / 2 * size; len(b) < 12*size; at += size {
			if r.Intn(12) == 0 {
				at = r.Intn(len(pool)/size) * size
			}
			b = append(b, pool[at%len(pool):at%len(pool)+size]...)
		}
		if r.Intn(3) == 0 {
			b[r.Intn(len(b))] ^= 1 << r.Intn(8)
		}
		lay(t, d, 0, b)
		seen(t, "any order", d, 0, 12, 0, 1)
		l, _ := recordsBy(b, 0)
		told += len(l)
	}
	if told < 1000 {
		t.Errorf("only %d records were told", told)
	}
}

// Any fields behind their own sum are a record, or they aren't in their form.
func TestAnyFields(t *testing.T) {
	r := rand.New(rand.NewSource(7))
	told := 0
	for range 20000 {
		fields := fieldsOf(r.Intn(2), 0, row(1, r.Intn(4)))
		for range r.Intn(3) {
			at := r.Intn(len(fields))
			switch r.Intn(3) {
			case 0:
				fields[at] = byte(r.Intn(10))
			case 1:
				fields = slices.Delete(fields, at, at+1)
			case 2:
				fields = slices.Insert(fields, at, byte(r.Intn(10)))
			}
		}
		d := laid(t, 2, sealed(fields))
		seen(t, "any fields", d, 0, 2, 0, 1)
		if _, _, _, whole := recordBy(bytesOf(t, d)); whole > 0 {
			told++
		}
	}
	if told < 5000 || told > 19000 {
		t.Errorf("%d of them are records", told)
	}
}

// P13.1: Scan and Peek change nothing, and share no memory (R4, R6)

func TestScanChangesNothing(t *testing.T) {
	d := laid(t, 8, formOf(1, 0, []byte("one")), formOf(1, 1, []byte("two")), formOf(1, 3, []byte("three")))
	before := bytesOf(t, d)
	d.Write(7, row(1, size))
	d.Fuse(1)
	for range 3 {
		scans(t, "again", d, 0, 8, 1, [][]byte{[]byte("one"), []byte("two")}, 2)
		scans(t, "again", d, 0, 8, 2, nil, 0)
		peeks(t, "again", d, 0, 8, 1, []byte("one"))
		unpeeked(t, "again", d, 1, 7)
	}
	if x := d.Sync(); x != api.ErrCrash {
		t.Fatalf("a sync answers %d: something was written or synced", x)
	}
	d.Start([]uint8{0})
	if !bytes.Equal(bytesOf(t, d), before) {
		t.Fatal("the drum has changed")
	}
}

func TestWhatWasToldMayBeChanged(t *testing.T) {
	forms := [][]byte{formOf(1, 0, []byte("one")), formOf(1, 1, row(2, 100)), formOf(1, 2, nil)}
	want := [][]byte{[]byte("one"), row(2, 100), nil}
	d := laid(t, 6, forms...)
	first, _, _ := scroll.Scan(d, 0, 6, 1)
	second, _, _ := scroll.Scan(d, 0, 6, 1)
	_, peeked, _ := scroll.Peek(d, 0, 6)
	for _, b := range append(first, peeked) {
		for i := range b {
			b[i] = 0xee
		}
		_ = append(b, row(9, 300)...)
	}
	clear(first)
	_ = append(first, row(9, 9))
	if !alike(second, want) {
		t.Error("two answers share their memory")
	}
	// What is appended to one of the records is nowhere else, too.
	for _, b := range second {
		_ = append(b, row(9, 300)...)
	}
	if !alike(second, want) {
		t.Error("two records of one answer share their memory")
	}
	has(t, "told and changed", d, forms...)
	scans(t, "told and changed", d, 0, 6, 1, want, 4)
	peeks(t, "told and changed", d, 0, 6, 1, []byte("one"))
}
