package tx

import (
	"bytes"
	"math"
	"math/big"
	"slices"
	"testing"

	"seisin/api"
)

// reader reads fields by the document's words, and keeps the first error.
type reader struct {
	rest []byte
	e    api.Errno
}

// cut takes n bytes off, or tells the error.
func (r *reader) cut(n int, e api.Errno) []byte {
	if r.e != api.OK {
		return nil
	}
	if n > len(r.rest) {
		r.e = e
		return nil
	}
	b := r.rest[:n]
	r.rest = r.rest[n:]
	return b
}

func (r *reader) num(most uint64) uint64 {
	head := r.cut(1, api.ErrShort)
	if r.e == api.OK && head[0] > 8 {
		r.e = api.ErrForm
	}
	if r.e != api.OK {
		return 0
	}
	b := r.cut(int(head[0]), api.ErrShort)
	n := new(big.Int).SetBytes(b)
	switch {
	case r.e != api.OK:
	case len(b) > 0 && b[0] == 0:
		r.e = api.ErrForm
	case n.Cmp(new(big.Int).SetUint64(most)) > 0:
		r.e = api.ErrRange
	}
	if r.e != api.OK {
		return 0
	}
	return n.Uint64()
}

func (r *reader) id() api.Id {
	var d api.Id
	copy(d[:], r.cut(32, api.ErrShort))
	return d
}

// readBy reads a transaction by the document's words.
func readBy(b []byte) (api.Tx, api.Errno) {
	r, t := &reader{rest: b}, api.Tx{}
	for range r.num(16) {
		in := api.In{P: api.Point{Tx: r.id(), Index: int(r.num(15))}, Amount: r.num(most)}
		in.Secret = r.cut(int(r.num(64)), api.ErrShort)
		t.Ins = append(t.Ins, in)
	}
	for range r.num(16) {
		t.Outs = append(t.Outs, api.Out{Owner: r.id(), Amount: r.num(most)})
	}
	t.Fee = r.num(most)
	t.Expiry = int(r.num(epochs))
	switch {
	case r.e != api.OK:
		return api.Tx{}, r.e
	case len(r.rest) > 0:
		return api.Tx{}, api.ErrForm
	case wrong(t) != api.OK:
		return api.Tx{}, wrong(t)
	}
	return t, api.OK
}

// checkRead holds a reading against readBy; it answers the error.
func checkRead(t *testing.T, b []byte) api.Errno {
	t.Helper()
	want, e := readBy(b)
	got, gotE := Read(b)
	if gotE != e {
		t.Fatalf("% x: %v, not %v", b, gotE, e)
	}
	if e != api.OK {
		if !empty(got) {
			t.Fatalf("% x: %v beside %v", b, got, e)
		}
		return e
	}
	if !same(got, want) {
		t.Fatalf("% x: %v, not %v", b, got, want)
	}
	if back, e := Put(got); e != api.OK || !bytes.Equal(back, b) {
		t.Fatalf("% x is put as % x, %v", b, back, e)
	}
	return api.OK
}

// expect is checkRead, with the error that is known.
func expect(t *testing.T, what string, b []byte, want api.Errno) {
	t.Helper()
	if got := checkRead(t, b); got != want {
		t.Errorf("%s: %v, not %v", what, got, want)
	}
}

// forms are forms of right transactions of many sizes.
func forms() [][]byte {
	l := [][]byte{formOf(of([]uint64{5}, []uint64{4}, 1)), formOf(of([]uint64{top}, []uint64{top - 1}, 1))}
	for _, n := range []int{1, 2, 3, 16} {
		for _, m := range []int{1, 2, 16} {
			l = append(l, formOf(some(n, m)))
		}
	}
	return l
}

// P7.1: Read

func TestReadOfForms(t *testing.T) {
	for _, b := range forms() {
		expect(t, "a form", b, api.OK)
	}
}

func TestReadOfWhatIsCut(t *testing.T) {
	for _, b := range forms() {
		for end := range b {
			expect(t, "a form cut short", b[:end], api.ErrShort)
		}
	}
	expect(t, "nil", nil, api.ErrShort)
	expect(t, "no bytes", []byte{}, api.ErrShort)
}

func TestReadOfBytesBehind(t *testing.T) {
	for _, b := range forms() {
		for x := range 256 {
			expect(t, "a byte behind", append(bytes.Clone(b), byte(x)), api.ErrForm)
		}
		expect(t, "two behind one another", append(bytes.Clone(b), b...), api.ErrForm)
	}
}

// parts are what a form of one input and one output is put together from, each
// field by itself.
type parts struct {
	ins, tx, index, amount, secret string
	outs, owner, paid, fee, expiry string
}

func (p parts) form() []byte {
	return []byte(p.ins + p.tx + p.index + p.amount + p.secret + p.outs + p.owner + p.paid + p.fee + p.expiry)
}

func plain() parts {
	tx, owner := digest(1), digest(2)
	return parts{"\x01\x01", string(tx[:]), "\x01\x03", "\x01\x05", "\x01\x02ab", "\x01\x01", string(owner[:]), "\x01\x04", "\x01\x01", "\x02\x01\x2c"}
}

// number is where a number of a form stands, and what it is at most.
type number struct {
	what string
	at   *string
	most uint64
}

// numbers are those of a form, the lengths of its lists and texts among them.
func numbers(p *parts) []number {
	return []number{
		{"inputs", &p.ins, 16}, {"index", &p.index, 15}, {"amount", &p.amount, most}, {"secret", &p.secret, 64},
		{"outputs", &p.outs, 16}, {"paid", &p.paid, most}, {"fee", &p.fee, most}, {"expiry", &p.expiry, epochs},
	}
}

func TestReadOfPlainParts(t *testing.T) {
	b := plain().form()
	expect(t, "plain", b, api.OK)
	got, _ := Read(b)
	want := api.Tx{
		Ins:    []api.In{{P: api.Point{Tx: digest(1), Index: 3}, Amount: 5, Secret: []byte("ab")}},
		Outs:   []api.Out{{Owner: digest(2), Amount: 4}},
		Fee:    1,
		Expiry: 300,
	}
	if !Same(got, want) || string(got.Ins[0].Secret) != "ab" {
		t.Errorf("%v, not %v", got, want)
	}
}

func TestReadOfNumbersThatAreNone(t *testing.T) {
	for i, n := range numbers(&parts{}) {
		for _, c := range []struct {
			b    string
			want api.Errno
		}{
			{"\x01\x00", api.ErrForm},
			{"\x02\x00\x01", api.ErrForm},
			{"\x08\x00\x01\x01\x01\x01\x01\x01\x01", api.ErrForm},
			{"\x09\x01\x01\x01\x01\x01\x01\x01\x01\x01", api.ErrForm},
			{"\x80\x01", api.ErrForm},
			{"\xff\x01", api.ErrForm},
		} {
			p := plain()
			*numbers(&p)[i].at = c.b
			expect(t, n.what, p.form(), c.want)
		}
	}
}

func TestReadOfNumbersOutside(t *testing.T) {
	for i, n := range numbers(&parts{}) {
		if n.most == most {
			continue
		}
		for _, above := range []uint64{n.most + 1, n.most + 2, n.most + 256, n.most + 1<<32, top, 1 << 63, most} {
			p := plain()
			*numbers(&p)[i].at = string(numOf(above))
			expect(t, n.what, p.form(), api.ErrRange)
		}
	}
}

func TestReadOfNumbersAtTheirEdges(t *testing.T) {
	for _, c := range []struct {
		what string
		turn func(p *parts)
		want api.Errno
	}{
		{"index 0", func(p *parts) { p.index = "\x00" }, api.OK},
		{"index 15", func(p *parts) { p.index = "\x01\x0f" }, api.OK},
		{"index 16", func(p *parts) { p.index = "\x01\x10" }, api.ErrRange},
		{"no secret", func(p *parts) { p.secret = "\x00" }, api.OK},
		{"64 bytes of a secret", func(p *parts) { p.secret = "\x01\x40" + string(row(64)) }, api.OK},
		{"65 bytes of a secret", func(p *parts) { p.secret = "\x01\x41" + string(row(65)) }, api.ErrRange},
		{"expiry 0", func(p *parts) { p.expiry = "\x00" }, api.OK},
		{"expiry 2^40", func(p *parts) { p.expiry = "\x06\x01\x00\x00\x00\x00\x00" }, api.OK},
		{"expiry 2^40 and one", func(p *parts) { p.expiry = "\x06\x01\x00\x00\x00\x00\x01" }, api.ErrRange},
		{"no fee", func(p *parts) { p.fee, p.paid = "\x00", "\x01\x05" }, api.OK},
		{"the greatest amounts", func(p *parts) { p.amount, p.paid = string(numOf(top)), string(numOf(top-1)) }, api.OK},
		{"17 inputs, and no more", func(p *parts) { *p = parts{ins: "\x01\x11"} }, api.ErrRange},
		{"16 inputs, and no more", func(p *parts) { *p = parts{ins: "\x01\x10"} }, api.ErrShort},
	} {
		p := plain()
		c.turn(&p)
		expect(t, c.what, p.form(), c.want)
	}
}

// What no field tells Check does: the numbers that may be any, and counts of 0.
func TestReadTellsChecksErrors(t *testing.T) {
	long := string(numOf(top + 1))
	for _, c := range []struct {
		what string
		turn func(p *parts)
		want api.Errno
	}{
		{"no inputs", func(p *parts) { p.ins, p.tx, p.index, p.amount, p.secret = "\x00", "", "", "", "" }, api.ErrLong},
		{"no outputs", func(p *parts) { p.outs, p.owner, p.paid = "\x00", "", "" }, api.ErrLong},
		{"neither", func(p *parts) { *p = parts{ins: "\x00", outs: "\x00", fee: "\x00", expiry: "\x00"} }, api.ErrLong},
		{"nothing comes in", func(p *parts) { p.amount = "\x00" }, api.ErrZero},
		{"nothing goes out", func(p *parts) { p.paid = "\x00" }, api.ErrZero},
		{"too much comes in", func(p *parts) { p.amount = long }, api.ErrSum},
		{"too much goes out", func(p *parts) { p.paid = long }, api.ErrSum},
		{"too great a fee", func(p *parts) { p.fee = string(numOf(most)) }, api.ErrSum},
		{"the greatest numbers", func(p *parts) {
			p.amount = string(numOf(most))
			p.paid, p.fee = p.amount, p.amount
		}, api.ErrSum},
		{"less comes in", func(p *parts) { p.amount = "\x01\x04" }, api.ErrLess},
		{"less goes out", func(p *parts) { p.paid = "\x01\x03" }, api.ErrLess},
	} {
		p := plain()
		c.turn(&p)
		expect(t, c.what, p.form(), c.want)
		// That a field isn't there, or bytes are left, is told ahead of it.
		expect(t, c.what+" and a byte", append(p.form(), 0), api.ErrForm)
		expect(t, c.what+" and a byte less", p.form()[:len(p.form())-1], api.ErrShort)
		p.expiry = string(numOf(epochs + 1))
		expect(t, c.what+" and an expiry outside", p.form(), api.ErrRange)
	}
}

// All transactions that aren't right, as far as bytes can tell them, are read as Check tells.
func TestReadOfFormsThatAreNotRight(t *testing.T) {
	for _, f := range faults() {
		x := with(some(4, 4), f.turn)
		b := formOf(x)
		switch got := checkRead(t, b); {
		case got == api.OK:
			t.Errorf("%s is read", f.what)
		case f.e != api.ErrLong && got != f.e:
			t.Errorf("%s: %v, not %v", f.what, got, f.e)
		}
		if f.e != api.ErrLong {
			expect(t, f.what+" and a byte", append(b, 7), api.ErrForm)
		}
	}
}

func TestReadOfTheFirstFault(t *testing.T) {
	names := numbers(&parts{})
	for i := range names {
		for j := i + 1; j < len(names); j++ {
			p := plain()
			list := numbers(&p)
			*list[i].at, *list[j].at = "\x09", "\x01\x00"
			expect(t, names[i].what+" ahead of "+names[j].what, p.form(), api.ErrForm)
			if list[i].most < most {
				*list[i].at = string(numOf(list[i].most + 1))
				expect(t, names[i].what+" ahead of "+names[j].what, p.form(), api.ErrRange)
			}
		}
	}
}

func TestReadOfAllShortBytes(t *testing.T) {
	checkRead(t, nil)
	for a := range 256 {
		checkRead(t, []byte{byte(a)})
		for b := range 256 {
			checkRead(t, []byte{byte(a), byte(b)})
			for _, c := range []byte{0, 1, 16, 17, 255} {
				checkRead(t, []byte{byte(a), byte(b), c})
			}
		}
	}
	for code := range 1 << 14 {
		b := make([]byte, 7)
		for i := range b {
			b[i] = byte(code >> (2 * i) & 3)
		}
		checkRead(t, b)
	}
}

// Each byte of a form is made each other one, left out, and put in.
func TestReadOfFormsWithOneByteChanged(t *testing.T) {
	read := 0
	count := func(e api.Errno) {
		if e == api.OK {
			read++
		}
	}
	for _, b := range [][]byte{plain().form(), formOf(some(2, 2)), formOf(of([]uint64{top - 1, 1}, []uint64{top - 2}, 2))} {
		for at := range b {
			for x := range 256 {
				changed := bytes.Clone(b)
				changed[at] = byte(x)
				count(checkRead(t, changed))
				count(checkRead(t, slices.Insert(bytes.Clone(b), at, byte(x))))
			}
			count(checkRead(t, slices.Delete(bytes.Clone(b), at, at+1)))
		}
	}
	if read < 1000 {
		t.Errorf("only %d were read", read)
	}
}

func TestReadOfFormsWithManyBytesChanged(t *testing.T) {
	next, list := chain(5), forms()
	for range 20000 {
		b := bytes.Clone(list[next()%uint64(len(list))])
		for range 1 + next()%4 {
			b[next()%uint64(len(b))] = byte(next() % 18)
		}
		checkRead(t, b)
	}
}

func FuzzRead(f *testing.F) {
	for _, b := range forms() {
		f.Add(b)
	}
	f.Fuzz(func(t *testing.T, b []byte) { checkRead(t, b) })
}

// P7.1: Same

// near are right transactions that are unlike in one thing each.
func near() []api.Tx {
	l := []api.Tx{some(2, 2)}
	add := func(turn func(t *api.Tx)) { l = append(l, with(l[0], turn)) }
	for i := range 2 {
		for at := range 32 {
			add(func(t *api.Tx) { t.Ins[i].P.Tx[at] ^= 1 })
			add(func(t *api.Tx) { t.Outs[i].Owner[at] ^= 128 })
		}
		add(func(t *api.Tx) { t.Ins[i].P.Index = 15 })
		add(func(t *api.Tx) { t.Ins[i].Secret = []byte("x") })
		add(func(t *api.Tx) { t.Ins[i].Secret = []byte("x\x00") })
		add(func(t *api.Tx) { t.Ins[i].Secret = []byte("\x00x") })
		add(func(t *api.Tx) { t.Ins[i].Amount++; t.Fee++ })
		add(func(t *api.Tx) { t.Outs[i].Amount--; t.Fee++ })
		add(func(t *api.Tx) { t.Ins[i].Amount++; t.Outs[i].Amount++ })
		add(func(t *api.Tx) { t.Ins[i].Amount++; t.Outs[1-i].Amount++ })
	}
	add(func(t *api.Tx) { t.Expiry++ })
	add(func(t *api.Tx) { t.Expiry = 0 })
	add(func(t *api.Tx) { t.Expiry += 1 << 32 })
	add(func(t *api.Tx) { t.Ins[0], t.Ins[1] = t.Ins[1], t.Ins[0] })
	add(func(t *api.Tx) { t.Outs[0], t.Outs[1] = t.Outs[1], t.Outs[0] })
	add(func(t *api.Tx) { t.Ins[0].Amount++; t.Ins[1].Amount-- })
	add(func(t *api.Tx) { t.Outs[0].Amount++; t.Outs[1].Amount-- })
	add(func(t *api.Tx) { t.Fee = t.Outs[1].Amount; t.Outs = t.Outs[:1] })
	for n := 1; n <= 16; n++ {
		for m := 1; m <= 16; m++ {
			if n != 2 || m != 2 {
				l = append(l, some(n, m))
			}
		}
	}
	return l
}

func TestSameOfNearOnes(t *testing.T) {
	l := near()
	for i, a := range l {
		for j, b := range l {
			if got := Same(a, clone(b)); got != (i == j) {
				t.Errorf("%d and %d: %v", i, j, got)
			}
		}
	}
}

func TestSameOfOnesThatAreNotRight(t *testing.T) {
	l := []api.Tx{
		{},
		{Fee: 1},
		{Expiry: 1},
		{Expiry: -1},
		{Expiry: math.MinInt},
		{Expiry: math.MaxInt, Fee: most},
		{Ins: make([]api.In, 1)},
		{Ins: make([]api.In, 2)},
		{Outs: make([]api.Out, 1)},
		{Ins: make([]api.In, 17), Outs: make([]api.Out, 17)},
		{Ins: make([]api.In, 17), Outs: make([]api.Out, 18)},
		{Ins: make([]api.In, 1<<16)},
		{Ins: append(make([]api.In, 1<<16-1), api.In{Amount: 1})},
		{Ins: []api.In{{P: api.Point{Index: -1}}}},
		{Ins: []api.In{{P: api.Point{Index: 1 << 32}}}},
		{Ins: []api.In{{Secret: row(100)}}},
		{Ins: []api.In{{Secret: append(row(100), 0)}}},
		{Ins: []api.In{{Secret: []byte{0}}}},
	}
	for _, f := range faults() {
		if f.what != "inputs without elements" && f.what != "outputs without elements" {
			l = append(l, with(some(4, 4), f.turn))
		}
	}
	for i, a := range l {
		for j, b := range l {
			if got := Same(a, clone(b)); got != (i == j) {
				t.Errorf("%d and %d: %v", i, j, got)
			}
		}
	}
}

// A list that is nil and one without elements are the same thing.
func TestSameOfNilAndOfNoElements(t *testing.T) {
	none := api.Tx{Ins: []api.In{}, Outs: []api.Out{}}
	if !Same(api.Tx{}, none) || !Same(none, api.Tx{}) {
		t.Error("no inputs and outputs")
	}
	a := with(some(1, 1), func(t *api.Tx) { t.Ins[0].Secret = nil })
	b := with(some(1, 1), func(t *api.Tx) { t.Ins[0].Secret = []byte{} })
	if !Same(a, b) || !Same(b, a) || Id(a) != Id(b) || Size(a) != Size(b) {
		t.Error("no secret")
	}
}

// P7.2

func TestWhatIsPutIsReadAsItWas(t *testing.T) {
	for i, x := range near() {
		b, e := Put(x)
		if e != api.OK {
			t.Fatalf("%d: %v", i, e)
		}
		if got, e := Read(b); e != api.OK || !Same(got, x) || !same(got, x) || Id(got) != Id(x) || Size(got) != len(b) {
			t.Errorf("%d is read as %v, %v", i, got, e)
		}
	}
}

func TestFormsOfUnlikeOnesAreUnlike(t *testing.T) {
	seen := map[string]int{}
	for i, x := range near() {
		b, _ := Put(x)
		if other, met := seen[string(b)]; met {
			t.Errorf("%d and %d have one form", i, other)
		}
		seen[string(b)] = i
		if again, _ := Put(clone(x)); !bytes.Equal(again, b) {
			t.Errorf("%d has two forms", i)
		}
	}
}

// Parts that run into one another are told apart: what ends one field begins no other one.
func TestFieldsDoNotRunTogether(t *testing.T) {
	a, b := some(2, 1), some(2, 1)
	a.Ins[0].Secret, a.Ins[1].Secret = []byte("ab"), []byte("c")
	b.Ins[0].Secret, b.Ins[1].Secret = []byte("a"), []byte("bc")
	formA, _ := Put(a)
	formB, _ := Put(b)
	if bytes.Equal(formA, formB) || Id(a) == Id(b) || Same(a, b) {
		t.Error("secrets parted elsewhere")
	}
}

// The rules that hold everywhere

// What is handed in is left, and what lies behind a list's length isn't looked at.
func TestArgumentsAreLeft(t *testing.T) {
	whole := some(8, 8)
	for i := range whole.Ins {
		whole.Ins[i].Secret = row(40)[:20]
	}
	was := clone(whole)
	x := whole
	x.Ins, x.Outs = whole.Ins[:4], whole.Outs[:4]
	for i := range x.Ins {
		x.Ins[i].Amount, x.Outs[i].Amount = 9, 9
		was.Ins[i].Amount, was.Outs[i].Amount = 9, 9
	}
	check(t, "the front of a longer one", x)
	if !same(whole, was) {
		t.Error("it has changed")
	}
	for _, in := range whole.Ins {
		if !bytes.Equal(in.Secret[:40], row(40)) {
			t.Error("behind a secret it has changed")
		}
	}
	b := append(formOf(x), row(50)...)
	copyOf := bytes.Clone(b)
	expect(t, "the front of more bytes", b[:len(b)-50], api.OK)
	if !bytes.Equal(b, copyOf) {
		t.Error("the bytes have changed")
	}
}

func TestAnswersAreNewMemory(t *testing.T) {
	x := some(3, 3)
	b, _ := Put(x)
	want := bytes.Clone(b)
	first, _ := Read(b)
	clear(b)
	if !same(first, x) {
		t.Error("what was read lies in the bytes")
	}
	again, _ := Put(x)
	if !bytes.Equal(again, want) {
		t.Error("what was put is kept")
	}
	second, _ := Read(want)
	for i := range first.Ins {
		clear(first.Ins[i].Secret)
		_ = append(first.Ins[i].Secret, row(9)...)
		first.Ins[i].Amount++
		first.Outs[i].Amount++
	}
	_ = append(append(first.Ins, first.Ins...), first.Ins...)
	if !same(second, x) {
		t.Error("two readings share memory")
	}
	if !bytes.Equal(want, formOf(x)) {
		t.Error("the bytes lie in what was read")
	}
}

// The lists of one answer don't reach into one another.
func TestListsOfAnAnswerAreApart(t *testing.T) {
	x := some(5, 5)
	for i := range x.Ins {
		got, _ := Read(formOf(x))
		want := clone(got)
		secret := got.Ins[i].Secret
		secret = append(secret[:cap(secret)], 0xee)
		for j := range secret {
			secret[j] = 0xee
		}
		got.Ins[i].Secret, want.Ins[i].Secret = nil, nil
		if !same(got, want) {
			t.Errorf("secret %d lies in another thing", i)
		}
	}
}

func TestTheSameCallHasTheSameAnswer(t *testing.T) {
	x := some(4, 3)
	b, _ := Put(x)
	id := Id(x)
	for range 3 {
		Check(api.Tx{})
		Id(some(1, 1))
		Read(b[1:])
		again, e := Put(x)
		if e != api.OK || !bytes.Equal(again, b) || Id(x) != id || Size(x) != len(b) || Check(x) != api.OK {
			t.Error("another answer")
		}
		expect(t, "again", b, api.OK)
		expect(t, "cut", b[:9], api.ErrShort)
	}
}
