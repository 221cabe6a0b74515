// The tests hold the package's exported calls alone against the document's words.
package drum_test

import (
	"bytes"
	"encoding/binary"
	"math"
	"math/rand"
	"slices"
	"testing"

	"seisin/api"
	"seisin/drum"
)

const (
	size  = 64
	words = 8
	most  = 8192
)

// filled is a sector whose bytes are all alike.
func filled(b byte) []byte { return bytes.Repeat([]byte{b}, size) }

// told is a sector each of whose words tells n, and which word it is.
func told(n int) []byte {
	var b []byte
	for word := range words {
		b = binary.BigEndian.AppendUint64(b, uint64(n)<<8|uint64(word))
	}
	return b
}

// word is one of the words of a sector.
func word(b []byte, n int) []byte { return b[8*n : 8*n+8] }

// oddSectors are numbers that are no sector of a drum of so many, among them
// such as would be one if they lost their sign, or their high bits.
func oddSectors(n int) []int {
	return []int{-1, -2, -n, -n - 1, n, n + 1, 2 * n, n + most, 1 << 13, 1 << 16, 1 << 32, 1<<32 + 1, -1 << 32, -1<<32 + 1,
		math.MaxInt32, math.MaxInt32 + 1, math.MinInt32, math.MaxInt - 1, math.MaxInt, math.MinInt, math.MinInt + 1}
}

// oddSizes are how many bytes no sector has.
var oddSizes = []int{0, 1, 7, 8, 9, 56, 62, 63, 65, 66, 72, 127, 128, 256 + 64, 1<<16 + 64}

// fresh is a drum that must be there.
func fresh(t *testing.T, sectors int) *drum.Drum {
	t.Helper()
	d := drum.New(sectors)
	if d == nil {
		t.Fatalf("there is no drum of %d sectors", sectors)
	}
	return d
}

// write writes, and must get this error.
func write(t *testing.T, d *drum.Drum, at int, b []byte, want api.Errno) {
	t.Helper()
	if got := d.Write(at, b); got != want {
		t.Fatalf("a write of %d bytes at %d answers %d, not %d", len(b), at, got, want)
	}
}

// sync syncs, and must get this error.
func sync(t *testing.T, d *drum.Drum, want api.Errno) {
	t.Helper()
	if got := d.Sync(); got != want {
		t.Fatalf("a sync answers %d, not %d", got, want)
	}
}

// reads must read these bytes.
func reads(t *testing.T, what string, d *drum.Drum, at int, want []byte) {
	t.Helper()
	got, x := d.Read(at)
	if x != api.OK || !bytes.Equal(got, want) {
		t.Fatalf("%s: sector %d is read as % x, %d, not % x", what, at, got, x, want)
	}
}

// unread must read nothing, but get this error.
func unread(t *testing.T, d *drum.Drum, at int, want api.Errno) {
	t.Helper()
	if got, x := d.Read(at); x != want || len(got) != 0 {
		t.Fatalf("sector %d is read as % x, %d, not as the error %d", at, got, x, want)
	}
}

// on must find the power so.
func on(t *testing.T, d *drum.Drum, want bool) {
	t.Helper()
	if got := d.On(); got != want {
		t.Fatalf("the power is on: %v, not %v", got, want)
	}
}

// device is a drum by the document's words: it keeps all that was sure and all
// that is read, byte by byte.
type device struct {
	sure, now []byte
	waits     []waiting
	fuse      int
	off       bool
}

type waiting struct {
	at int
	b  []byte
}

func deviceOf(sectors int) *device {
	return &device{sure: make([]byte, sectors*size), now: make([]byte, sectors*size)}
}

func (v *device) outside(at int) bool { return at < 0 || at >= len(v.now)/size }

// ends tells whether the fuse ends at what comes now.
func (v *device) ends() bool {
	v.fuse--
	v.off = v.fuse == 0
	return v.off
}

func (v *device) read(at int) ([]byte, api.Errno) {
	switch {
	case v.off:
		return nil, api.ErrDown
	case v.outside(at):
		return nil, api.ErrRange
	}
	return v.now[at*size : at*size+size], api.OK
}

func (v *device) write(at int, b []byte) api.Errno {
	switch {
	case v.off:
		return api.ErrDown
	case v.outside(at):
		return api.ErrRange
	case len(b) != size:
		return api.ErrArg
	case v.ends():
		return api.ErrCrash
	}
	copy(v.now[at*size:], b)
	v.waits = append(v.waits, waiting{at, bytes.Clone(b)})
	return api.OK
}

func (v *device) sync() api.Errno {
	switch {
	case v.off:
		return api.ErrDown
	case v.ends():
		return api.ErrCrash
	}
	v.waits = nil
	copy(v.sure, v.now)
	return api.OK
}

func (v *device) start(masks []uint8) {
	for k, w := range v.waits {
		for i := range w.b {
			if k >= len(masks) || masks[k]&(1<<(i/8)) != 0 {
				v.sure[w.at*size+i] = w.b[i]
			}
		}
	}
	copy(v.now, v.sure)
	v.waits, v.fuse, v.off = nil, 0, false
}

// same holds all that is seen of a drum against the device.
func same(t *testing.T, what string, d *drum.Drum, v *device) {
	t.Helper()
	if got, want := d.Len(), len(v.now)/size; got != want {
		t.Fatalf("%s: the drum has %d sectors, not %d", what, got, want)
	}
	if got := d.On(); got == v.off {
		t.Fatalf("%s: the power is on: %v", what, got)
	}
	for at := range d.Len() {
		got, x := d.Read(at)
		want, y := v.read(at)
		if x != y || !bytes.Equal(got, want) {
			t.Fatalf("%s: sector %d is read as % x, %d, not % x, %d", what, at, got, x, want, y)
		}
	}
}

// P12.1: New, Len, On

func TestHowManySectors(t *testing.T) {
	for _, n := range []int{1, 2, 3, 7, 8, 63, 64, 65, 255, 256, 257, 1024, most / 2, most - 1, most} {
		d := fresh(t, n)
		if got := d.Len(); got != n {
			t.Errorf("a drum of %d sectors has %d", n, got)
		}
		on(t, d, true)
		for at := range n {
			reads(t, "new", d, at, filled(0))
		}
		unread(t, d, n, api.ErrRange)
	}
	for _, n := range []int{0, -1, -2, -most, most + 1, most + 2, 2 * most, 1 << 16, 1 << 32, 1<<32 + 1, -1 << 32, -1<<32 + 1,
		math.MaxInt32, math.MaxInt, math.MinInt, math.MinInt + 1} {
		if d := drum.New(n); d != nil {
			t.Errorf("there is a drum of %d sectors", n)
		}
	}
}

func TestNewHasNoFuse(t *testing.T) {
	d := fresh(t, 2)
	for n := range 1000 {
		write(t, d, n%2, told(n), api.OK)
		sync(t, d, api.OK)
	}
	on(t, d, true)
}

func TestNoDrum(t *testing.T) {
	d := drum.New(0)
	d.Fuse(1)
	d.Fail()
	d.Start(nil)
	d.Start([]uint8{0, 255})
	if d.Len() != 0 || d.On() {
		t.Errorf("no drum has %d sectors, and is on: %v", d.Len(), d.On())
	}
	unread(t, d, 0, api.ErrDown)
	write(t, d, 0, filled(1), api.ErrDown)
	sync(t, d, api.ErrDown)
}

// P12.1: Read, Write, Sync

func TestWhatIsWrittenIsRead(t *testing.T) {
	for _, n := range []int{1, 2, 3, 64, most} {
		d := fresh(t, n)
		for at := range n {
			write(t, d, at, told(at+1), api.OK)
			reads(t, "written", d, at, told(at+1))
		}
		for at := range min(n, 100) {
			reads(t, "waiting", d, at, told(at+1))
		}
		sync(t, d, api.OK)
		for at := range n {
			reads(t, "synced", d, at, told(at+1))
		}
		write(t, d, n-1, told(n+1), api.OK)
		reads(t, "written again", d, n-1, told(n+1))
		write(t, d, n-1, told(n+2), api.OK)
		reads(t, "written thrice", d, n-1, told(n+2))
		sync(t, d, api.OK)
		sync(t, d, api.OK)
		reads(t, "synced again", d, n-1, told(n+2))
	}
}

func TestReadAnswersTheSame(t *testing.T) {
	d := fresh(t, 3)
	write(t, d, 1, told(1), api.OK)
	for range 5 {
		reads(t, "again", d, 1, told(1))
		reads(t, "again", d, 0, filled(0))
		unread(t, d, 3, api.ErrRange)
	}
	d.Start([]uint8{1})
	want := append(bytes.Clone(told(1)[:8]), make([]byte, 56)...)
	for range 5 {
		reads(t, "again, started", d, 1, want)
	}
}

func TestNoSuchSector(t *testing.T) {
	for _, n := range []int{1, 3, 64} {
		d, v := fresh(t, n), deviceOf(n)
		for _, at := range []int{0, n - 1} {
			write(t, d, at, told(at), v.write(at, told(at)))
		}
		for _, at := range oddSectors(n) {
			unread(t, d, at, api.ErrRange)
			write(t, d, at, filled(9), api.ErrRange)
			same(t, "no such sector", d, v)
		}
		d.Start([]uint8{})
		v.start(nil)
		same(t, "no such sector, started", d, v)
	}
	d := fresh(t, most)
	unread(t, d, -1, api.ErrRange)
	reads(t, "most", d, 0, filled(0))
	reads(t, "most", d, most-1, filled(0))
	unread(t, d, most, api.ErrRange)
	write(t, d, -1, filled(1), api.ErrRange)
	write(t, d, 0, filled(1), api.OK)
	write(t, d, most-1, filled(2), api.OK)
	write(t, d, most, filled(3), api.ErrRange)
	reads(t, "most", d, 0, filled(1))
	reads(t, "most", d, most-1, filled(2))
}

func TestNoSectorsBytes(t *testing.T) {
	d, v := fresh(t, 2), deviceOf(2)
	write(t, d, 0, told(1), v.write(0, told(1)))
	write(t, d, 1, nil, api.ErrArg)
	for _, n := range oddSizes {
		for at := range 2 {
			write(t, d, at, bytes.Repeat([]byte{7}, n), api.ErrArg)
			same(t, "odd bytes", d, v)
		}
	}
	write(t, d, 1, told(2), v.write(1, told(2)))
	d.Start(nil)
	v.start(nil)
	same(t, "odd bytes, started", d, v)
}

// Of several errors the one that is named first is answered, and the fuse last.
func TestOrderOfErrors(t *testing.T) {
	for _, c := range []struct {
		what string
		off  bool
		at   int
		size int
		want api.Errno
	}{
		{"all", true, 2, 63, api.ErrDown},
		{"all, ahead", true, -1, 65, api.ErrDown},
		{"off, and no such sector", true, 2, 64, api.ErrDown},
		{"off, and odd bytes", true, 1, 0, api.ErrDown},
		{"off", true, 1, 64, api.ErrDown},
		{"no such sector, and odd bytes", false, 2, 63, api.ErrRange},
		{"no such sector, and no bytes", false, -1, 0, api.ErrRange},
		{"no such sector", false, 2, 64, api.ErrRange},
		{"odd bytes", false, 1, 63, api.ErrArg},
		{"more bytes", false, 0, 65, api.ErrArg},
		{"none but the fuse", false, 1, 64, api.ErrCrash},
	} {
		d := fresh(t, 2)
		write(t, d, 0, told(1), api.OK)
		if c.off {
			d.Fail()
		}
		d.Fuse(1)
		if got := d.Write(c.at, make([]byte, c.size)); got != c.want {
			t.Errorf("%s: a write answers %d, not %d", c.what, got, c.want)
		}
		if got, want := d.On(), c.want == api.ErrRange || c.want == api.ErrArg; got != want {
			t.Errorf("%s: the power is on: %v", c.what, got)
		}
	}
	d := fresh(t, 2)
	d.Fuse(1)
	unread(t, d, 2, api.ErrRange)
	reads(t, "with a fuse", d, 1, filled(0))
	sync(t, d, api.ErrCrash)
	sync(t, d, api.ErrDown)
	unread(t, d, 2, api.ErrDown)
	unread(t, d, -1, api.ErrDown)
	unread(t, d, 1, api.ErrDown)
}

// P12.1: memory (R4)

func TestWhatWasGivenMayBeChanged(t *testing.T) {
	d := fresh(t, 2)
	b := told(1)
	write(t, d, 0, b, api.OK)
	write(t, d, 1, b, api.OK)
	if !bytes.Equal(b, told(1)) {
		t.Fatal("a write has changed what it was given")
	}
	copy(b, filled(9))
	reads(t, "given and changed", d, 0, told(1))
	sync(t, d, api.OK)
	copy(b, filled(8))
	reads(t, "synced, given and changed", d, 1, told(1))
	write(t, d, 0, b, api.OK)
	copy(b, filled(7))
	masks := []uint8{0x0f, 0xff, 0x55}
	d.Start(masks)
	if !slices.Equal(masks, []uint8{0x0f, 0xff, 0x55}) {
		t.Fatal("a start has changed what it was given")
	}
	clear(masks)
	want := append(bytes.Clone(filled(8)[:32]), told(1)[32:]...)
	reads(t, "landed, given and changed", d, 0, want)
	reads(t, "beside it", d, 1, told(1))
}

func TestWhatWasReadMayBeChanged(t *testing.T) {
	for _, c := range []struct {
		what string
		do   func(d *drum.Drum)
	}{
		{"waiting", func(d *drum.Drum) {}},
		{"synced", func(d *drum.Drum) { d.Sync() }},
		{"landed", func(d *drum.Drum) { d.Start([]uint8{0xff, 0xff, 0xff}) }},
	} {
		d := fresh(t, 3)
		for at := range 3 {
			write(t, d, at, told(at), api.OK)
		}
		c.do(d)
		first, _ := d.Read(1)
		second, _ := d.Read(1)
		copy(first, filled(9))
		first = append(first, filled(9)...)
		copy(first, filled(9))
		if !bytes.Equal(second, told(1)) {
			t.Fatalf("%s: two answers of Read share their memory", c.what)
		}
		for at := range 3 {
			reads(t, c.what, d, at, told(at))
		}
		d.Start(nil)
		for at := range 3 {
			reads(t, c.what+", started", d, at, told(at))
		}
	}
}

func TestWhatWasReadStays(t *testing.T) {
	d := fresh(t, 1)
	zeros, _ := d.Read(0)
	write(t, d, 0, told(1), api.OK)
	one, _ := d.Read(0)
	sync(t, d, api.OK)
	sure, _ := d.Read(0)
	write(t, d, 0, told(2), api.OK)
	d.Start([]uint8{0xff})
	reads(t, "landed", d, 0, told(2))
	if !bytes.Equal(zeros, filled(0)) || !bytes.Equal(one, told(1)) || !bytes.Equal(sure, told(1)) {
		t.Fatal("what was read has changed by what was written later")
	}
}

func TestWhatLiesBehindAList(t *testing.T) {
	d := fresh(t, 3)
	b := append(told(1), filled(9)...)
	write(t, d, 1, b[:size], api.OK)
	write(t, d, 1, b[:size-1], api.ErrArg)
	write(t, d, 1, b[:0], api.ErrArg)
	if !bytes.Equal(b, append(told(1), filled(9)...)) {
		t.Fatal("a write has changed what lies behind what it was given")
	}
	reads(t, "cut", d, 1, told(1))
	masks := []uint8{0x03, 0x00, 0x00, 0x00}
	write(t, d, 2, told(2), api.OK)
	d.Start(masks[:1])
	if !slices.Equal(masks, []uint8{0x03, 0x00, 0x00, 0x00}) {
		t.Fatal("a start has changed what lies behind what it was given")
	}
	reads(t, "cut, started", d, 1, append(bytes.Clone(told(1)[:16]), make([]byte, 48)...))
	reads(t, "cut, started", d, 2, told(2))
	reads(t, "cut, started", d, 0, filled(0))
}

func TestDrumsAreApart(t *testing.T) {
	a, b := fresh(t, 2), fresh(t, 2)
	b.Fuse(2)
	write(t, a, 0, told(1), api.OK)
	write(t, a, 1, told(2), api.OK)
	sync(t, a, api.OK)
	reads(t, "the other one", b, 0, filled(0))
	a.Fail()
	on(t, b, true)
	write(t, b, 0, told(3), api.OK)
	sync(t, b, api.ErrCrash)
	a.Start(nil)
	on(t, b, false)
	reads(t, "this one", a, 0, told(1))
	b.Start([]uint8{0})
	reads(t, "the other one", b, 0, filled(0))
	reads(t, "this one", a, 0, told(1))
}

// P12.1, P12.2, P12.3: any row of calls, at all arguments

// step makes one of a drum's calls, and the device's likewise.
func step(t *testing.T, r *rand.Rand, d *drum.Drum, v *device, syncs int) {
	t.Helper()
	n := d.Len()
	at := r.Intn(n)
	if r.Intn(12) == 0 {
		at = oddSectors(n)[r.Intn(len(oddSectors(n)))]
	}
	switch c := r.Intn(60 + syncs); {
	case c < 40:
		b := told(r.Intn(1 << 20))
		if r.Intn(15) == 0 {
			b = make([]byte, oddSizes[r.Intn(len(oddSizes))])
		}
		write(t, d, at, b, v.write(at, b))
	case c < 50:
		got, x := d.Read(at)
		want, y := v.read(at)
		if x != y || !bytes.Equal(got, want) {
			t.Fatalf("sector %d is read as % x, %d, not % x, %d", at, got, x, want, y)
		}
	case c < 53:
		f := r.Intn(12) - 2
		d.Fuse(f)
		if v.fuse = max(f, 0); v.off {
			v.fuse = 0
		}
	case c == 53:
		d.Fail()
		v.off = true
	case c < 60:
		masks := make([]uint8, r.Intn(8))
		for k := range masks {
			masks[k] = []uint8{0, 255, uint8(r.Intn(256))}[r.Intn(3)]
		}
		d.Start(masks)
		v.start(masks)
	default:
		sync(t, d, v.sync())
	}
}

func TestAnyRowOfCalls(t *testing.T) {
	for seed := range 300 {
		r := rand.New(rand.NewSource(int64(seed)))
		n := 1 + r.Intn(5)
		d, v, syncs := fresh(t, n), deviceOf(n), r.Intn(30)
		for range 400 {
			step(t, r, d, v, syncs)
			same(t, "any row", d, v)
		}
	}
}
