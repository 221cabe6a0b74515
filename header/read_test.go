package header

import (
	"bytes"
	"math/big"
	"testing"

	"seisin/api"
)

// reader reads fields by the document's words, and keeps the first error.
type reader struct {
	rest []byte
	e    api.Errno
}

// cut takes n bytes off, or tells that they aren't there.
func (r *reader) cut(n int) []byte {
	if r.e == api.OK && n > len(r.rest) {
		r.e = api.ErrShort
	}
	if r.e != api.OK {
		return nil
	}
	b := r.rest[:n]
	r.rest = r.rest[n:]
	return b
}

func (r *reader) num(most uint64) uint64 {
	head := r.cut(1)
	if r.e == api.OK && head[0] > 8 {
		r.e = api.ErrForm
	}
	if r.e != api.OK {
		return 0
	}
	b := r.cut(int(head[0]))
	n := new(big.Int).SetBytes(b)
	switch {
	case r.e != api.OK:
	case len(b) > 0 && b[0] == 0:
		r.e = api.ErrForm
	case n.Cmp(new(big.Int).SetUint64(most)) > 0:
		r.e = api.ErrRange
	}
	return n.Uint64()
}

func (r *reader) id() api.Id {
	var d api.Id
	copy(d[:], r.cut(32))
	return d
}

// readBy reads a header by the document's words.
func readBy(b []byte) (api.Header, api.Errno) {
	r := &reader{rest: b}
	h := api.Header{Shard: int(r.num(63)), Height: int(r.num(highest)), Epoch: int(r.num(highest)), Prev: r.id(), Root: r.id()}
	switch {
	case r.e != api.OK:
		return api.Header{}, r.e
	case len(r.rest) > 0 || h.Height == 0:
		return api.Header{}, api.ErrForm
	}
	return h, api.OK
}

// checkRead holds a reading against readBy; it answers the error.
func checkRead(t *testing.T, b []byte) api.Errno {
	t.Helper()
	want, x := readBy(b)
	got, gotX := Read(b)
	if gotX != x || got != want {
		t.Fatalf("% x is read as %v, %v, not %v, %v", b, got, gotX, want, x)
	}
	if x != api.OK {
		return x
	}
	if !Right(got) {
		t.Fatalf("% x is read as %v, which isn't right", b, got)
	}
	if back, ok := Put(got); !ok || !bytes.Equal(back, b) {
		t.Fatalf("% x is put as % x, %v", b, back, ok)
	}
	return api.OK
}

// expect is checkRead, with the error that is known.
func expect(t *testing.T, what string, b []byte, want api.Errno) {
	t.Helper()
	if got := checkRead(t, b); got != want {
		t.Errorf("%s: % x: %v, not %v", what, b, got, want)
	}
}

// forms are forms of right headers of many sizes.
func forms() [][]byte {
	return [][]byte{
		formOf(plain()),
		formOf(api.Header{Height: 1}),
		formOf(api.Header{Shard: 1, Height: 1, Epoch: 1, Root: digest(4)}),
		formOf(api.Header{Shard: 63, Height: highest, Epoch: highest, Prev: digest(7), Root: digest(8)}),
		formOf(api.Header{Shard: 62, Height: highest - 1, Epoch: highest - 1, Prev: digest(9)}),
	}
}

// parts are what a form is put together from, each field by itself.
type parts struct{ shard, height, epoch, prev, root string }

func (p parts) form() []byte { return []byte(p.shard + p.height + p.epoch + p.prev + p.root) }

func plainParts() parts {
	d, e := digest(1), digest(2)
	return parts{"\x01\x05", "\x02\x01\x2c", "\x03\x01\x11\x70", string(d[:]), string(e[:])}
}

// number is where a number of a form stands, and what it is at most.
type number struct {
	what string
	at   *string
	most uint64
}

// numbers are those of a form, in their order.
func numbers(p *parts) []number {
	return []number{{"shard", &p.shard, 63}, {"height", &p.height, highest}, {"epoch", &p.epoch, highest}}
}

// P10.1: Read

func TestReadOfForms(t *testing.T) {
	for _, b := range forms() {
		expect(t, "a form", b, api.OK)
	}
	if got, x := Read(plainParts().form()); x != api.OK || got != plain() {
		t.Errorf("%v, %v", got, x)
	}
}

func TestReadOfHeight0(t *testing.T) {
	p := plainParts()
	p.height = "\x00"
	expect(t, "height 0", p.form(), api.ErrForm)
	zeros := api.Id{}
	expect(t, "the zero header", []byte("\x00\x00\x00"+string(zeros[:])+string(zeros[:])), api.ErrForm)
	expect(t, "height 0 and a byte behind", append(p.form(), 0), api.ErrForm)
}

// That the height is 0 is told behind the errors of all fields.
func TestReadOfHeight0AndAnotherFault(t *testing.T) {
	for i, n := range numbers(&parts{}) {
		if n.what == "height" {
			continue
		}
		p := plainParts()
		p.height = "\x00"
		*numbers(&p)[i].at = string(numOf(n.most + 1))
		expect(t, "height 0, and outside: "+n.what, p.form(), api.ErrRange)
	}
	p := plainParts()
	p.height = "\x00"
	whole := p.form()
	for end := range whole {
		expect(t, "height 0, cut short", whole[:end], api.ErrShort)
	}
}

func TestReadOfWhatIsCut(t *testing.T) {
	for _, b := range forms() {
		for end := range b {
			expect(t, "a form cut short", b[:end], api.ErrShort)
		}
	}
	expect(t, "nil", nil, api.ErrShort)
	expect(t, "no bytes", []byte{}, api.ErrShort)
}

func TestReadOfBytesBehind(t *testing.T) {
	for _, b := range forms() {
		for x := range 256 {
			expect(t, "a byte behind", append(bytes.Clone(b), byte(x)), api.ErrForm)
		}
		expect(t, "two behind one another", append(bytes.Clone(b), b...), api.ErrForm)
		expect(t, "many behind", append(bytes.Clone(b), make([]byte, 5000)...), api.ErrForm)
	}
}

func TestReadOfNumbersThatAreNone(t *testing.T) {
	for i, n := range numbers(&parts{}) {
		for _, b := range []string{"\x01\x00", "\x02\x00\x01", "\x03\x00\x01\x01", "\x08\x00\x01\x01\x01\x01\x01\x01\x01",
			"\x09\x01\x01\x01\x01\x01\x01\x01\x01\x01", "\x80\x01", "\xff\x01"} {
			p := plainParts()
			*numbers(&p)[i].at = b
			expect(t, n.what, p.form(), api.ErrForm)
		}
	}
}

func TestReadOfNumbersOutside(t *testing.T) {
	for i, n := range numbers(&parts{}) {
		for _, above := range []uint64{n.most + 1, n.most + 2, n.most + 256, n.most + 1<<32, top + 1, 1<<63 - 1, 1 << 63, 1<<63 + 1, most} {
			p := plainParts()
			*numbers(&p)[i].at = string(numOf(above))
			expect(t, n.what, p.form(), api.ErrRange)
		}
	}
}

func TestReadOfNumbersAtTheirEdges(t *testing.T) {
	for i, n := range numbers(&parts{}) {
		for _, within := range []uint64{0, 1, 2, n.most - 1, n.most} {
			p, want := plainParts(), api.OK
			if n.what == "height" && within == 0 {
				want = api.ErrForm
			}
			*numbers(&p)[i].at = string(numOf(within))
			expect(t, n.what, p.form(), want)
		}
	}
}

// Of two faults the one of the field ahead is told.
func TestReadOfTheFirstFault(t *testing.T) {
	names := numbers(&parts{})
	for i := range names {
		for j := i + 1; j < len(names); j++ {
			p := plainParts()
			list := numbers(&p)
			what := names[i].what + " ahead of " + names[j].what
			*list[i].at, *list[j].at = string(numOf(list[i].most+1)), "\x01\x00"
			expect(t, what, p.form(), api.ErrRange)
			*list[i].at, *list[j].at = "\x01\x00", string(numOf(list[j].most+1))
			expect(t, what, p.form(), api.ErrForm)
			expect(t, what+", cut short", p.form()[:len(p.form())-1], api.ErrForm)
		}
	}
}

func TestReadOfAllShortBytes(t *testing.T) {
	for a := range 256 {
		checkRead(t, []byte{byte(a)})
		for b := range 256 {
			checkRead(t, []byte{byte(a), byte(b)})
			checkRead(t, append([]byte{byte(a), byte(b)}, make([]byte, 66)...))
			checkRead(t, append([]byte{0, byte(a), byte(b)}, make([]byte, 65)...))
		}
	}
}

// Each byte of a form is changed, left out, and has another one put ahead of it.
func TestReadOfFormsWithAByteTurned(t *testing.T) {
	for _, form := range forms() {
		for at := range form {
			left := append(bytes.Clone(form[:at]), form[at+1:]...)
			checkRead(t, left)
			for x := range 256 {
				changed := bytes.Clone(form)
				changed[at] = byte(x)
				checkRead(t, changed)
				more := append(bytes.Clone(form[:at]), byte(x))
				checkRead(t, append(more, form[at:]...))
			}
		}
	}
}

// What is handed in is neither changed, nor read behind its length.
func TestReadLeavesItsBytes(t *testing.T) {
	whole := append(formOf(plain()), 1, 2, 3)
	was, n := bytes.Clone(whole), len(whole)-3
	got, x := Read(whole[:n])
	if x != api.OK || got != plain() || !bytes.Equal(whole, was) {
		t.Errorf("%v, %v, % x", got, x, whole)
	}
	if _, x := Read(whole[:n-1]); x != api.ErrShort {
		t.Errorf("read behind its length: %v", x)
	}
	for i := range whole {
		whole[i] = 0xee
	}
	if got != plain() {
		t.Errorf("%v is shared", got)
	}
}

func FuzzReadAndPut(f *testing.F) {
	for _, b := range forms() {
		f.Add(b)
	}
	f.Fuzz(func(t *testing.T, b []byte) { checkRead(t, b) })
}
