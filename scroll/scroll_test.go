// The tests hold the package's exported calls alone against the document's words.
package scroll_test

import (
	"bytes"
	"crypto/sha256"
	"encoding/binary"
	"math"
	"slices"
	"testing"

	"seisin/api"
	"seisin/drum"
	"seisin/scroll"
)

const (
	size    = 64
	longest = 1024
	most    = 8192
	highest = 1 << 40
)

// oddNumbers are no turns, and no numbers, of records.
var oddNumbers = []int{-1, -2, -highest, highest + 1, highest + 2, 1 << 41, 1 << 62, math.MaxInt - 1, math.MaxInt, math.MinInt, math.MinInt + 1, -1 << 32}

// edges are turns and numbers at and beside each bound of how many bytes they have.
var edges = []int{0, 1, 2, 127, 128, 255, 256, 257, 65535, 65536, 1<<24 - 1, 1 << 24, 1<<32 - 1, 1 << 32, highest - 1, highest}

// numOf is a number by the words of chapter 4.
func numOf(n uint64) []byte {
	b := bytes.TrimLeft(binary.BigEndian.AppendUint64(nil, n), "\x00")
	return append([]byte{byte(len(b))}, b...)
}

// fieldsOf are a record's fields.
func fieldsOf(turn, n int, b []byte) []byte {
	return slices.Concat(numOf(uint64(turn)), numOf(uint64(n)), numOf(uint64(len(b))), b)
}

// sumOf is what a form has behind its length.
func sumOf(fields []byte) []byte {
	told := binary.BigEndian.AppendUint32([]byte{13}, uint32(len(fields)))
	sum := sha256.Sum256(append(told, fields...))
	return sum[:8]
}

// sealed are whole sectors with any fields, be they a record's or not, behind
// their length and their own sum.
func sealed(fields []byte) []byte {
	b := binary.BigEndian.AppendUint32(nil, uint32(len(fields)))
	b = slices.Concat(b, sumOf(fields), fields)
	for len(b)%size != 0 {
		b = append(b, 0)
	}
	return b
}

func formOf(turn, n int, b []byte) []byte { return sealed(fieldsOf(turn, n, b)) }

// sectorsOf is how many sectors a record has.
func sectorsOf(turn, n int, b []byte) int { return len(formOf(turn, n, b)) / size }

// filling is how many bytes a record has that just fills so many sectors.
func filling(turn, n, sectors int) int {
	for many := sectors*size - 12; many >= 0; many-- {
		if 12+len(numOf(uint64(turn)))+len(numOf(uint64(n)))+len(numOf(uint64(many)))+many == sectors*size {
			return many
		}
	}
	panic("no record just fills them")
}

// row is so many bytes without order, none of them 0, always the same ones.
func row(seed, many int) []byte {
	b, x := make([]byte, many), uint64(seed)*2654435761+uint64(many)
	for i := range b {
		x = x*6364136223846793005 + 1442695040888963407
		b[i] = byte(1 + (x>>33)%255)
	}
	return b
}

// fresh is a drum that must be there.
func fresh(t *testing.T, sectors int) *drum.Drum {
	t.Helper()
	d := drum.New(sectors)
	if d == nil {
		t.Fatalf("there is no drum of %d sectors", sectors)
	}
	return d
}

// lay writes whole sectors from one on, and makes them sure.
func lay(t *testing.T, d *drum.Drum, at int, b ...[]byte) {
	t.Helper()
	for k, sector := range slices.Collect(slices.Chunk(slices.Concat(b...), size)) {
		if x := d.Write(at+k, sector); x != api.OK {
			t.Fatalf("sector %d can't be written: %d", at+k, x)
		}
	}
	if x := d.Sync(); x != api.OK {
		t.Fatalf("no sync: %d", x)
	}
}

// laid is a drum that has these bytes from its first sector on.
func laid(t *testing.T, sectors int, b ...[]byte) *drum.Drum {
	t.Helper()
	d := fresh(t, sectors)
	lay(t, d, 0, b...)
	return d
}

// bytesOf is all that is read of a drum.
func bytesOf(t *testing.T, d *drum.Drum) []byte {
	t.Helper()
	var b []byte
	for at := range d.Len() {
		sector, x := d.Read(at)
		if x != api.OK {
			t.Fatalf("sector %d can't be read: %d", at, x)
		}
		b = append(b, sector...)
	}
	return b
}

// has must find these bytes on a drum, but for zeros behind them.
func has(t *testing.T, what string, d *drum.Drum, b ...[]byte) {
	t.Helper()
	want := slices.Concat(b...)
	want = append(want, make([]byte, d.Len()*size-len(want))...)
	got := bytesOf(t, d)
	for at := range d.Len() {
		if g, w := got[at*size:at*size+size], want[at*size:at*size+size]; !bytes.Equal(g, w) {
			t.Fatalf("%s: sector %d is % x, not % x", what, at, g, w)
		}
	}
}

// alike tells whether two lists of records are the same.
func alike(a, b [][]byte) bool { return slices.EqualFunc(a, b, bytes.Equal) }

// P13.1: Form

func TestFormsByHand(t *testing.T) {
	for _, c := range []struct {
		turn, n int
		b       string
		want    string
	}{
		{0, 0, "", "\x00\x00\x00\x03\xeb\xab\xda\x83\x06\x17\x87\xf8\x00\x00\x00"},
		{2, 300, "ab", "\x00\x00\x00\x09\x05\x82\x41\x32\xde\x02\xb7\xea\x01\x02\x02\x01\x2c\x01\x02ab"},
		{highest, highest, "abc", "\x00\x00\x00\x13\x43\x8c\x6b\x72\x50\x66\xd7\xe1" +
			"\x06\x01\x00\x00\x00\x00\x00\x06\x01\x00\x00\x00\x00\x00\x01\x03abc"},
	} {
		want := append([]byte(c.want), make([]byte, size-len(c.want))...)
		if got, x := scroll.Form(c.turn, c.n, []byte(c.b)); x != api.OK || !bytes.Equal(got, want) {
			t.Errorf("%d, %d, %q: % x, %d, not % x", c.turn, c.n, c.b, got, x, want)
		}
	}
}

func TestExamples(t *testing.T) {
	for _, c := range []struct{ many, sectors int }{{3, 1}, {60, 2}} {
		for _, n := range []int{0, 1, 300} {
			got, x := scroll.Form(n, n, row(1, c.many))
			if x != api.OK || len(got) != c.sectors*size {
				t.Errorf("a record of %d bytes has a form of %d, %d", c.many, len(got), x)
			}
		}
		s, _ := blank(t, 4, 1)
		puts(t, s, row(1, c.many), api.OK)
		leaves(t, s, 4-c.sectors)
	}
}

// formed must get the form by the document's words.
func formed(t *testing.T, turn, n int, b []byte) {
	t.Helper()
	got, x := scroll.Form(turn, n, b)
	if want := formOf(turn, n, b); x != api.OK || !bytes.Equal(got, want) {
		t.Fatalf("turn %d, number %d, %d bytes: %d bytes, %d, not %d: % x", turn, n, len(b), len(got), x, len(want), got[:min(len(got), 40)])
	}
}

// unformed must get this error, and nothing else.
func unformed(t *testing.T, turn, n int, b []byte, want api.Errno) {
	t.Helper()
	if got, x := scroll.Form(turn, n, b); x != want || len(got) != 0 {
		t.Fatalf("turn %d, number %d, %d bytes: %d bytes, %d, not %d", turn, n, len(b), len(got), x, want)
	}
}

func TestForms(t *testing.T) {
	formed(t, 0, 0, nil)
	formed(t, 0, 0, []byte{})
	for many := range 400 {
		formed(t, many%7, many%5, row(many, many))
		formed(t, highest, many, make([]byte, many))
	}
	for _, many := range []int{1000, 4095, 4096, 8192, 65000} {
		formed(t, 3, 4, row(many, many))
	}
	for _, turn := range edges {
		for _, n := range edges {
			formed(t, turn, n, []byte("ab"))
		}
	}
}

// A record just fills its sectors, or has a byte more, or one less.
func TestWholeSectors(t *testing.T) {
	for _, turn := range []int{0, 1, 256, highest} {
		for _, n := range []int{0, 255, 256, highest} {
			for _, sectors := range []int{1, 2, 3, 4, 16, 255, 1023, longest} {
				many := filling(turn, n, sectors)
				formed(t, turn, n, row(n, many-1))
				formed(t, turn, n, row(n, many))
				if sectors < longest {
					formed(t, turn, n, row(n, many+1))
				}
				if got, _ := scroll.Form(turn, n, row(n, many)); len(got) != sectors*size {
					t.Errorf("it has %d bytes, not %d sectors", len(got), sectors)
				}
			}
		}
	}
}

func TestTooLong(t *testing.T) {
	for _, turn := range []int{0, 1, 256, highest} {
		for _, n := range []int{0, 255, 256, highest} {
			many := filling(turn, n, longest)
			for _, more := range []int{1, 2, 63, 64, 65, 1000, 1 << 16, 1 << 20, 1 << 24} {
				unformed(t, turn, n, make([]byte, many+more), api.ErrLong)
			}
		}
	}
	formed(t, 0, 0, make([]byte, 65519))
	unformed(t, 0, 0, make([]byte, 65520), api.ErrLong)
}

func TestNoTurnNorNumber(t *testing.T) {
	for _, odd := range oddNumbers {
		for _, b := range [][]byte{nil, []byte("ab"), make([]byte, 65520), make([]byte, 1<<20)} {
			unformed(t, odd, 0, b, api.ErrRange)
			unformed(t, 0, odd, b, api.ErrRange)
			unformed(t, odd, odd, b, api.ErrRange)
			unformed(t, highest, odd, b, api.ErrRange)
			unformed(t, odd, highest, b, api.ErrRange)
		}
	}
	for _, n := range []int{0, highest} {
		formed(t, n, 0, []byte("ab"))
		formed(t, 0, n, []byte("ab"))
	}
}

func TestFormSharesNoMemory(t *testing.T) {
	whole := row(1, 200)
	first, _ := scroll.Form(3, 4, whole[:100])
	second, _ := scroll.Form(3, 4, whole[:100])
	if !bytes.Equal(whole, row(1, 200)) {
		t.Fatal("what was given has changed")
	}
	clear(whole)
	for i := range first {
		first[i] = 0xee
	}
	_ = append(first, 0xee, 0xee)
	if !bytes.Equal(second, formOf(3, 4, row(1, 200)[:100])) {
		t.Error("a form has changed with what was given, or with another one")
	}
	formed(t, 3, 4, row(1, 100))
}
