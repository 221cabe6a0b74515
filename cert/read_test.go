package cert_test

import (
	"bytes"
	"math/big"
	"slices"
	"strings"
	"testing"

	"seisin/api"
	"seisin/cert"
)

// reader reads fields by the document's words, and keeps the first error.
type reader struct {
	rest []byte
	e    api.Errno
}

// cut takes n bytes off, or tells that they aren't there.
func (r *reader) cut(n int) []byte {
	if r.e == api.OK && n > len(r.rest) {
		r.e = api.ErrShort
	}
	if r.e != api.OK {
		return nil
	}
	b := r.rest[:n]
	r.rest = r.rest[n:]
	return b
}

func (r *reader) num(most uint64) uint64 {
	head := r.cut(1)
	if r.e == api.OK && head[0] > 8 {
		r.e = api.ErrForm
	}
	if r.e != api.OK {
		return 0
	}
	b := r.cut(int(head[0]))
	n := new(big.Int).SetBytes(b)
	switch {
	case r.e != api.OK:
	case len(b) > 0 && b[0] == 0:
		r.e = api.ErrForm
	case n.Cmp(new(big.Int).SetUint64(most)) > 0:
		r.e = api.ErrRange
	}
	if r.e != api.OK {
		return 0
	}
	return n.Uint64()
}

func (r *reader) text(most uint64) []byte { return r.cut(int(r.num(most))) }

func (r *reader) id() api.Id {
	var d api.Id
	copy(d[:], r.cut(32))
	return d
}

// ended is the error of fields that are all there is.
func (r *reader) ended() api.Errno {
	if r.e == api.OK && len(r.rest) > 0 {
		return api.ErrForm
	}
	return r.e
}

func entryBy(b []byte) (api.Entry, api.Errno) {
	r := &reader{rest: b}
	e := api.Entry{Kind: int(r.num(3)), Shard: int(r.num(63)), Tx: r.id(), Amount: r.num(top), Why: int(r.num(63)), Epoch: int(r.num(highest))}
	if x := r.ended(); x != api.OK {
		return api.Entry{}, x
	}
	if e.Kind == 0 {
		return api.Entry{}, api.ErrForm
	}
	return e, api.OK
}

func headerBy(b []byte) (api.Header, api.Errno) {
	r := &reader{rest: b}
	h := api.Header{Shard: int(r.num(63)), Height: int(r.num(highest)), Epoch: int(r.num(highest)), Prev: r.id(), Root: r.id()}
	if x := r.ended(); x != api.OK {
		return api.Header{}, x
	}
	if h.Height == 0 {
		return api.Header{}, api.ErrForm
	}
	return h, api.OK
}

// readBy reads a certificate by the document's words. Of bytes that are left
// behind a fault within the fields the chapter names no order: either error does.
func readBy(b []byte) (api.Cert, []api.Errno) {
	r := &reader{rest: b}
	var c api.Cert
	e := r.text(100)
	for range r.num(32) {
		c.Path = append(c.Path, r.id())
	}
	h := r.text(100)
	c.Tag = r.id()
	if r.e != api.OK {
		return api.Cert{}, []api.Errno{r.e}
	}
	var x, y api.Errno
	c.E, x = entryBy(e)
	c.H, y = headerBy(h)
	if x == api.OK {
		x = y
	}
	switch {
	case x == api.OK && r.ended() == api.OK:
		return c, []api.Errno{api.OK}
	case x == api.OK:
		return api.Cert{}, []api.Errno{r.ended()}
	case r.ended() == api.OK:
		return api.Cert{}, []api.Errno{x}
	}
	return api.Cert{}, []api.Errno{r.ended(), x}
}

// checkRead holds a reading against readBy; it answers the error.
func checkRead(t *testing.T, b []byte) api.Errno {
	t.Helper()
	want, errors := readBy(b)
	got, x := cert.Read(b)
	if !slices.Contains(errors, x) || !same(got, want) {
		t.Fatalf("% x is read as %v, %v, not %v, %v", b, got, x, want, errors)
	}
	if x != api.OK {
		return x
	}
	if back := cert.Put(got); !bytes.Equal(back, b) {
		t.Fatalf("% x is put as % x", b, back)
	}
	return api.OK
}

// same is Same, by the document's words.
func same(a, b api.Cert) bool {
	return a.E == b.E && slices.Equal(a.Path, b.Path) && a.H == b.H && a.Tag == b.Tag
}

// expect is checkRead, with the error that is known.
func expect(t *testing.T, what string, b []byte, want api.Errno) {
	t.Helper()
	if got := checkRead(t, b); got != want {
		t.Errorf("%s: % x: %v, not %v", what, b, got, want)
	}
}

// forms are forms of certificates of many sizes, of which not all are right.
func forms() [][]byte {
	var l [][]byte
	for _, b := range blocks() {
		l = append(l, formOf(b.cert(all)))
	}
	for _, n := range []int{0, 1, 3, 32} {
		l = append(l, formOf(with(func(c *api.Cert) { c.Path = make([]api.Id, n) })))
	}
	return l
}

// parts are what a form is put together from, each field by itself; the texts
// are a length each, and bytes.
type parts struct{ entryLen, entry, count, path, headerLen, header, tag string }

func (p parts) form() []byte {
	return []byte(p.entryLen + p.entry + p.count + p.path + p.headerLen + p.header + p.tag)
}

func plainParts() parts {
	c := plain()
	e, h := string(entryOf(c.E)), string(headerOf(c.H))
	return parts{string(numOf(uint64(len(e)))), e, "\x01\x02", string(idsOf(c.Path)), string(numOf(uint64(len(h)))), h, string(c.Tag[:])}
}

// setEntry, and setHeader, put another text there, with its length.
func (p *parts) setEntry(b string) { p.entryLen, p.entry = string(numOf(uint64(len(b)))), b }

func (p *parts) setHeader(b string) { p.headerLen, p.header = string(numOf(uint64(len(b)))), b }

// setPath puts so many digests there, with their number.
func (p *parts) setPath(n int) {
	p.count, p.path = string(numOf(uint64(n))), strings.Repeat("0123456789abcdef", 2*n)
}

// numbers are those of a form, in their order, and what each is at most.
func numbers(p *parts) ([]*string, []uint64) {
	return []*string{&p.entryLen, &p.count, &p.headerLen}, []uint64{100, 32, 100}
}

// fault is one that a form has, and the error that is then told.
type fault struct {
	what string
	turn func(p *parts)
	want api.Errno
}

// fieldFaults are those of the fields, in the order in which they are told.
func fieldFaults() []fault {
	return []fault{
		{"the entry's length has nine bytes", func(p *parts) { p.entryLen = "\x09" }, api.ErrForm},
		{"an entry's form too long", func(p *parts) { p.setEntry(strings.Repeat("e", 101)) }, api.ErrRange},
		{"a digest too many", func(p *parts) { p.setPath(33) }, api.ErrRange},
		{"the header's length begins with a 0", func(p *parts) { p.headerLen = "\x02\x00\x46" }, api.ErrForm},
		{"a header's form too long", func(p *parts) { p.setHeader(strings.Repeat("h", 101)) }, api.ErrRange},
		{"a tag too short", func(p *parts) { p.tag = p.tag[:31] }, api.ErrShort},
	}
}

// withinFaults are those of a text within, each with the error that its own Read
// tells: e turns an entry's form, h a header's.
func withinFaults() (e, h []fault) {
	form := plainParts()
	e = []fault{
		{"no entry", func(p *parts) { p.setEntry("") }, api.ErrShort},
		{"an entry cut short", func(p *parts) { p.setEntry(form.entry[:len(form.entry)-1]) }, api.ErrShort},
		{"bytes behind an entry", func(p *parts) { p.setEntry(form.entry + "\x00") }, api.ErrForm},
		{"an entry of kind 0", func(p *parts) { p.setEntry("\x00" + form.entry[2:]) }, api.ErrForm},
		{"an entry of kind 4", func(p *parts) { p.setEntry("\x01\x04" + form.entry[2:]) }, api.ErrRange},
		{"an entry of shard 64", func(p *parts) { p.setEntry("\x01\x01\x01\x40" + form.entry[4:]) }, api.ErrRange},
		{"an entry's number in another form", func(p *parts) { p.setEntry("\x02\x00\x01" + form.entry[2:]) }, api.ErrForm},
		{"100 bytes for an entry", func(p *parts) { p.setEntry((form.entry + strings.Repeat("e", 100))[:100]) }, api.ErrForm},
	}
	h = []fault{
		{"no header", func(p *parts) { p.setHeader("") }, api.ErrShort},
		{"a header cut short", func(p *parts) { p.setHeader(form.header[:len(form.header)-1]) }, api.ErrShort},
		{"bytes behind a header", func(p *parts) { p.setHeader(form.header + "\x00") }, api.ErrForm},
		{"a header of height 0", func(p *parts) { p.setHeader("\x01\x05\x00" + form.header[5:]) }, api.ErrForm},
		{"a header of shard 64", func(p *parts) { p.setHeader("\x01\x40" + form.header[2:]) }, api.ErrRange},
		{"a header above the greatest height", func(p *parts) { p.setHeader("\x01\x05" + string(numOf(highest+1)) + form.header[5:]) }, api.ErrRange},
		{"a header's number in another form", func(p *parts) { p.setHeader("\x02\x00\x05" + form.header[2:]) }, api.ErrForm},
		{"100 bytes for a header", func(p *parts) { p.setHeader((form.header + strings.Repeat("h", 100))[:100]) }, api.ErrForm},
	}
	return e, h
}

// P11.2: Read

func TestReadOfForms(t *testing.T) {
	for _, b := range forms() {
		expect(t, "a form", b, api.OK)
	}
	for _, b := range blocks() {
		c, x := cert.Read(formOf(b.cert(all)))
		if x != api.OK || !cert.Is(all.ring(), c) || !cert.Same(c, b.cert(all)) {
			t.Errorf("%v, %v", c, x)
		}
	}
	if c, x := cert.Read(plainParts().form()); x != api.OK || !same(c, plain()) {
		t.Errorf("%v, %v", c, x)
	}
}

// A certificate is read whether it is right or not, if its entry and its header are.
func TestReadOfCertificatesThatArentRight(t *testing.T) {
	for _, turn := range turns() {
		c := with(turn)
		expect(t, "not right as a whole", formOf(c), api.OK)
		if got, x := cert.Read(cert.Put(c)); x != api.OK || !same(got, c) {
			t.Errorf("%v is read as %v, %v", c, got, x)
		}
	}
	for _, e := range wrongEntries() {
		expect(t, "a wrong entry", formOf(with(func(c *api.Cert) { c.E = e })), api.ErrShort)
	}
	for _, h := range wrongHeaders() {
		expect(t, "a wrong header", formOf(with(func(c *api.Cert) { c.H = h })), api.ErrShort)
	}
	expect(t, "the zero certificate", cert.Put(api.Cert{}), api.ErrShort)
}

func TestReadOfWhatIsCut(t *testing.T) {
	for _, b := range forms() {
		for end := range b {
			expect(t, "a form cut short", b[:end], api.ErrShort)
		}
	}
	expect(t, "nil", nil, api.ErrShort)
	expect(t, "no bytes", []byte{}, api.ErrShort)
}

func TestReadOfBytesBehind(t *testing.T) {
	for _, b := range forms() {
		for x := range 256 {
			expect(t, "a byte behind", append(bytes.Clone(b), byte(x)), api.ErrForm)
		}
		expect(t, "two behind one another", append(bytes.Clone(b), b...), api.ErrForm)
		expect(t, "many behind", append(bytes.Clone(b), make([]byte, 5000)...), api.ErrForm)
	}
}

func TestReadOfTextsAtTheirEdges(t *testing.T) {
	for n := range 300 {
		p, q := plainParts(), plainParts()
		p.setEntry((p.entry + strings.Repeat("\x00", 300))[:n])
		q.setHeader((q.header + strings.Repeat("\x00", 300))[:n])
		entryWant, headerWant := lengthError(n, len(plainParts().entry)), lengthError(n, len(plainParts().header))
		expect(t, "an entry's text", p.form(), entryWant)
		expect(t, "a header's text", q.form(), headerWant)
	}
	// That a text is too long is told before it is looked for.
	for _, n := range []uint64{101, 255, 256, 1 << 31, 1 << 32, 1<<63 - 1, 1 << 63, 1<<64 - 1} {
		p, q := plainParts(), plainParts()
		p.entryLen, q.headerLen = string(numOf(n)), string(numOf(n))
		expect(t, "an entry's length", p.form(), api.ErrRange)
		expect(t, "an entry's length alone", numOf(n), api.ErrRange)
		expect(t, "a header's length", q.form(), api.ErrRange)
	}
}

// lengthError is the error of a form's first n bytes, or of it with zeros behind.
func lengthError(n, whole int) api.Errno {
	switch {
	case n > 100:
		return api.ErrRange
	case n > whole:
		return api.ErrForm
	case n < whole:
		return api.ErrShort
	}
	return api.OK
}

func TestReadOfPathsAtTheirEdges(t *testing.T) {
	for n := range 70 {
		p := plainParts()
		p.setPath(n)
		want := api.OK
		if n > 32 {
			want = api.ErrRange
		}
		expect(t, "a path", p.form(), want)
		if c, x := cert.Read(p.form()); x == api.OK && (len(c.Path) != n || cert.Is(all.ring(), c)) {
			t.Errorf("a path of %d is read as one of %d, or right", n, len(c.Path))
		}
	}
	for _, n := range []uint64{33, 255, 256, 257, 1 << 32, 1<<32 + 2, 1<<63 + 2, 1<<64 - 1} {
		p := plainParts()
		p.count = string(numOf(n))
		expect(t, "how many digests", p.form(), api.ErrRange)
		p.path, p.headerLen, p.header, p.tag = "", "", "", ""
		expect(t, "how many digests, and none", p.form(), api.ErrRange)
	}
}

func TestReadOfNumbersThatAreNone(t *testing.T) {
	for i := range 3 {
		for _, b := range []string{"\x01\x00", "\x02\x00\x02", "\x03\x00\x01\x01", "\x08\x00\x01\x01\x01\x01\x01\x01\x01",
			"\x09\x01\x01\x01\x01\x01\x01\x01\x01\x01", "\x80\x01", "\xff\x01"} {
			p := plainParts()
			list, _ := numbers(&p)
			*list[i] = b
			expect(t, "a number", p.form(), api.ErrForm)
		}
	}
}

// The fields' own numbers in another form, though their value is right.
func TestReadOfNumbersInAnotherForm(t *testing.T) {
	for i := range 3 {
		p := plainParts()
		list, _ := numbers(&p)
		right := *list[i]
		for zeros := 1; zeros <= 7; zeros++ {
			*list[i] = string(byte(1+zeros)) + strings.Repeat("\x00", zeros) + right[1:]
			expect(t, "a number", p.form(), api.ErrForm)
		}
	}
}

func TestReadOfOneFault(t *testing.T) {
	e, h := withinFaults()
	for _, f := range slices.Concat(fieldFaults(), e, h) {
		p := plainParts()
		f.turn(&p)
		expect(t, f.what, p.form(), f.want)
	}
}

// Of two faults of fields the one of the field ahead is told.
func TestReadOfTwoFieldsFaults(t *testing.T) {
	l := fieldFaults()
	for i, f := range l {
		for _, g := range l[i+1:] {
			p := plainParts()
			g.turn(&p)
			f.turn(&p)
			expect(t, f.what+", and "+g.what, p.form(), f.want)
		}
	}
}

// Faults of all fields, behind those within too, are told ahead of those within.
func TestReadOfFieldsFaultsAndOthersWithin(t *testing.T) {
	e, h := withinFaults()
	for _, f := range fieldFaults() {
		for _, g := range slices.Concat(e, h) {
			p := plainParts()
			g.turn(&p)
			f.turn(&p)
			expect(t, f.what+", and "+g.what, p.form(), f.want)
		}
		for _, g := range e {
			for _, i := range h {
				p := plainParts()
				g.turn(&p)
				i.turn(&p)
				f.turn(&p)
				expect(t, f.what+", and "+g.what+", and "+i.what, p.form(), f.want)
			}
		}
	}
}

// The entry's fault is told ahead of the header's.
func TestReadOfFaultsInBoth(t *testing.T) {
	e, h := withinFaults()
	for _, f := range e {
		for _, g := range h {
			p := plainParts()
			f.turn(&p)
			g.turn(&p)
			expect(t, f.what+", and "+g.what, p.form(), f.want)
			whole := p.form()
			expect(t, f.what+", and "+g.what+", cut short", whole[:len(whole)-1], api.ErrShort)
		}
	}
}

// The entry's form where the header's should be, and the other way about.
func TestReadOfFormsExchanged(t *testing.T) {
	p, form := plainParts(), plainParts()
	p.setEntry(form.header)
	checkRead(t, p.form())
	p.setHeader(form.entry)
	checkRead(t, p.form())
	p.setEntry(form.entry)
	checkRead(t, p.form())
}

func TestReadOfAllShortBytes(t *testing.T) {
	for a := range 256 {
		checkRead(t, []byte{byte(a)})
		for b := range 256 {
			checkRead(t, []byte{byte(a), byte(b)})
			checkRead(t, append([]byte{byte(a), byte(b)}, make([]byte, 120)...))
			checkRead(t, append([]byte{0, byte(a), byte(b)}, make([]byte, 70)...))
			checkRead(t, append([]byte{0, 0, byte(a), byte(b)}, make([]byte, 32)...))
		}
	}
}

// P11.2, P11.3: no form in which a bit is turned is read as what is right.
func TestReadOfFormsWithABitTurned(t *testing.T) {
	r := all.ring()
	for _, b := range blocks() {
		c := b.cert(all)
		form := formOf(c)
		for bit := range 8 * len(form) {
			turned := bytes.Clone(form)
			turned[bit/8] ^= 1 << (bit % 8)
			if checkRead(t, turned) != api.OK {
				continue
			}
			got, _ := cert.Read(turned)
			if cert.Is(r, got) || rightBy(all, got) {
				t.Errorf("with the bit at %d turned % x is right", bit, form)
			}
			if cert.Same(got, c) || cert.Proves(r, got, got.E.Kind, got.E.Shard, got.E.Tx) {
				t.Errorf("with the bit at %d turned % x proves", bit, form)
			}
		}
	}
}

// Each byte of a form is changed, left out, and has another one put ahead of it.
func TestReadOfFormsWithAByteTurned(t *testing.T) {
	for _, form := range [][]byte{formOf(plain()), formOf(blocks()[1].cert(all)), formOf(blocks()[5].cert(all))} {
		for at := range form {
			left := append(bytes.Clone(form[:at]), form[at+1:]...)
			checkRead(t, left)
			for x := range 256 {
				changed := bytes.Clone(form)
				changed[at] = byte(x)
				checkRead(t, changed)
				more := append(bytes.Clone(form[:at]), byte(x))
				checkRead(t, append(more, form[at:]...))
			}
		}
	}
}

// What is handed in is neither changed nor kept, and isn't read behind its length.
func TestReadLeavesItsBytes(t *testing.T) {
	whole := append(formOf(plain()), 1, 2, 3)
	was, n := bytes.Clone(whole), len(whole)-3
	got, x := cert.Read(whole[:n])
	if x != api.OK || !same(got, plain()) || !bytes.Equal(whole, was) {
		t.Errorf("%v, %v, % x", got, x, whole)
	}
	if _, x := cert.Read(whole[:n-1]); x != api.ErrShort {
		t.Errorf("read behind its length: %v", x)
	}
	for i := range whole {
		whole[i] = 0xee
	}
	if !same(got, plain()) {
		t.Errorf("%v is shared", got)
	}
	again, _ := cert.Read(formOf(plain()))
	for i := range again.Path {
		again.Path[i] = api.Id{}
	}
	if third, _ := cert.Read(formOf(plain())); !same(third, plain()) || !same(got, plain()) {
		t.Error("two readings share a path")
	}
}

func FuzzReadAndPut(f *testing.F) {
	for _, b := range forms() {
		f.Add(b)
	}
	f.Fuzz(func(t *testing.T, b []byte) { checkRead(t, b) })
}
