package field

import (
	"bytes"
	"errors"
	"math"
	"math/big"
	"runtime"
	"slices"
	"strconv"
	"testing"

	"seisin/api"
)

// chain answers numbers without order, always the same ones.
func chain(seed uint64) func() uint64 {
	step := seed*2654435761 + 1
	return func() uint64 {
		step = step*6364136223846793005 + 1442695040888963407
		return step >> 11
	}
}

// row answers n bytes without order, always the same ones.
func row(n int) []byte {
	next, l := chain(uint64(n)), make([]byte, n)
	for i := range l {
		l[i] = byte(next() >> 20)
	}
	return l
}

func digest(first byte) api.Id {
	d := api.Id{}
	for i := range d {
		d[i] = first + byte(i)
	}
	return d
}

// edges are numbers at and beside every bound of how many bytes they have, rising.
func edges() []uint64 {
	l := []uint64{0, 1, 2, 9, 10, 11}
	for n := 1; n < 8; n++ {
		bound := uint64(1) << (8 * n)
		l = append(l, bound/2, bound-2, bound-1, bound, bound+1)
	}
	return append(l, 1<<62, 1<<63-1, 1<<63, 1<<63+1, math.MaxUint64-1, math.MaxUint64)
}

// written answers what a pen has written.
func written(do func(p *Pen)) []byte {
	var p Pen
	do(&p)
	return p.Bytes()
}

// formOf is a number's form, by numbers of any size.
func formOf(n uint64) []byte {
	b := new(big.Int).SetUint64(n).Bytes()
	return append([]byte{byte(len(b))}, b...)
}

// numberIn reads a number by the words of the document: it, how many bytes it takes, or the error.
func numberIn(b []byte, most uint64) (uint64, int, api.Errno) {
	if len(b) == 0 {
		return 0, 0, api.ErrShort
	}
	if b[0] > 8 {
		return 0, 0, api.ErrForm
	}
	end := 1 + int(b[0])
	if end > len(b) {
		return 0, 0, api.ErrShort
	}
	if end > 1 && b[1] == 0 {
		return 0, 0, api.ErrForm
	}
	n := new(big.Int).SetBytes(b[1:end])
	if n.Cmp(new(big.Int).SetUint64(most)) > 0 {
		return 0, 0, api.ErrRange
	}
	return n.Uint64(), end, api.OK
}

// textIn reads a text likewise.
func textIn(b []byte, most int) ([]byte, int, api.Errno) {
	n, from, e := numberIn(b, math.MaxUint64)
	size, left := new(big.Int).SetUint64(n), big.NewInt(int64(len(b)-from))
	switch {
	case e != api.OK:
		return nil, 0, e
	case size.Cmp(big.NewInt(int64(most))) > 0:
		return nil, 0, api.ErrRange
	case size.Cmp(left) > 0:
		return nil, 0, api.ErrShort
	}
	end := from + int(n)
	return b[from:end], end, api.OK
}

// P4.1

func TestTheZeroPenHasWrittenNothing(t *testing.T) {
	var p Pen
	if len(p.Bytes()) != 0 || len(new(Pen).Bytes()) != 0 {
		t.Error("something")
	}
}

func TestNumWrites(t *testing.T) {
	for _, c := range []struct {
		n    uint64
		want string
	}{
		{0, "\x00"},
		{1, "\x01\x01"},
		{127, "\x01\x7f"},
		{128, "\x01\x80"},
		{255, "\x01\xff"},
		{256, "\x02\x01\x00"},
		{300, "\x02\x01\x2c"},
		{65535, "\x02\xff\xff"},
		{65536, "\x03\x01\x00\x00"},
		{0x123456, "\x03\x12\x34\x56"},
		{1 << 24, "\x04\x01\x00\x00\x00"},
		{1 << 32, "\x05\x01\x00\x00\x00\x00"},
		{1 << 40, "\x06\x01\x00\x00\x00\x00\x00"},
		{1 << 48, "\x07\x01\x00\x00\x00\x00\x00\x00"},
		{1<<56 - 1, "\x07\xff\xff\xff\xff\xff\xff\xff"},
		{1 << 56, "\x08\x01\x00\x00\x00\x00\x00\x00\x00"},
		{1 << 63, "\x08\x80\x00\x00\x00\x00\x00\x00\x00"},
		{0x0102030405060708, "\x08\x01\x02\x03\x04\x05\x06\x07\x08"},
		{math.MaxUint64, "\x08\xff\xff\xff\xff\xff\xff\xff\xff"},
	} {
		if got := written(func(p *Pen) { p.Num(c.n) }); string(got) != c.want {
			t.Errorf("%d is % x, not % x", c.n, got, c.want)
		}
	}
	for _, n := range edges() {
		if got := written(func(p *Pen) { p.Num(n) }); !bytes.Equal(got, formOf(n)) {
			t.Errorf("%d is % x, not % x", n, got, formOf(n))
		}
	}
}

func TestTextWrites(t *testing.T) {
	for _, c := range []struct {
		b    []byte
		want string
	}{
		{nil, "\x00"},
		{[]byte{}, "\x00"},
		{[]byte("ab"), "\x01\x02ab"},
		{[]byte{0}, "\x01\x01\x00"},
		{[]byte("\xff\xfe\x00"), "\x01\x03\xff\xfe\x00"},
	} {
		if got := written(func(p *Pen) { p.Text(c.b) }); string(got) != c.want {
			t.Errorf("%q is % x, not % x", c.b, got, c.want)
		}
	}
	for _, n := range []int{1, 255, 256, 257, 65535, 65536, 65537, 1 << 24} {
		want := append(formOf(uint64(n)), row(n)...)
		if got := written(func(p *Pen) { p.Text(row(n)) }); !bytes.Equal(got, want) {
			t.Errorf("a text of %d bytes has another form", n)
		}
	}
}

func TestIdWrites(t *testing.T) {
	for _, d := range []api.Id{{}, {31: 7}, {7}, digest(0), digest(200)} {
		if got := written(func(p *Pen) { p.Id(d) }); !bytes.Equal(got, d[:]) {
			t.Errorf("%x is % x", d, got)
		}
	}
}

func TestAFieldComesBehindAll(t *testing.T) {
	var p Pen
	want := []byte{}
	d := digest(9)
	for i := range 300 {
		switch i % 3 {
		case 0:
			n := uint64(1) << (i % 64)
			p.Num(n)
			want = append(want, formOf(n)...)
		case 1:
			p.Text(row(i))
			want = append(append(want, formOf(uint64(i))...), row(i)...)
		case 2:
			p.Id(d)
			want = append(want, d[:]...)
		}
		if got := p.Bytes(); !bytes.Equal(got, want) {
			t.Fatalf("behind field %d: % x, not % x", i, got, want)
		}
	}
}

func TestPensWriteEachByItself(t *testing.T) {
	var a, b Pen
	a.Num(1)
	b.Num(2)
	a.Num(3)
	if string(a.Bytes()) != "\x01\x01\x01\x03" || string(b.Bytes()) != "\x01\x02" {
		t.Errorf("% x, % x", a.Bytes(), b.Bytes())
	}
}

// What Bytes answers is new, and what Text and Id are handed isn't kept.
func TestAPenSharesNoMemory(t *testing.T) {
	var p Pen
	whole := []byte("abcdef")
	text, d := whole[:3], digest(5)
	p.Text(text)
	p.Id(d)
	want := "\x01\x03abc" + string(d[:])
	whole[0], d[0] = 'x', 99
	first := p.Bytes()
	if string(first) != want {
		t.Errorf("what was handed in is kept: % x", first)
	}
	for i := range first {
		first[i] = 0xee
	}
	_ = append(first, 0xee, 0xee)
	if got := p.Bytes(); string(got) != want {
		t.Errorf("what was answered is kept: % x", got)
	}
	kept := p.Bytes()
	p.Num(7)
	_ = append(kept, 0xee, 0xee)
	if got := p.Bytes(); string(got) != want+"\x01\x07" || string(kept) != want {
		t.Errorf("% x, % x", got, kept)
	}
	if string(whole) != "xbcdef" {
		t.Errorf("%q has changed", whole)
	}
}

// P4.2: numbers

func TestNumErrors(t *testing.T) {
	for _, c := range []struct {
		b    string
		most uint64
		want api.Errno
	}{
		{"", 10, api.ErrShort},
		{"", 0, api.ErrShort},
		{"\x09", 10, api.ErrForm},
		{"\x09", 0, api.ErrForm},
		{"\x09\x00", 10, api.ErrForm},
		{"\x09\x01\x02\x03\x04\x05\x06\x07\x08\x09", math.MaxUint64, api.ErrForm},
		{"\x80", math.MaxUint64, api.ErrForm},
		{"\xff", math.MaxUint64, api.ErrForm},
		{"\x01", 10, api.ErrShort},
		{"\x02\x01", 10, api.ErrShort},
		{"\x02\x00", 10, api.ErrShort}, // it ends within, and it begins with a 0
		{"\x02\xff", 10, api.ErrShort}, // it ends within, and would be above most
		{"\x08\x01\x02\x03\x04\x05\x06\x07", math.MaxUint64, api.ErrShort},
		{"\x01\x00", 10, api.ErrForm},
		{"\x01\x00", 0, api.ErrForm},
		{"\x02\x00\x01", 10, api.ErrForm},
		{"\x02\x00\xff", 10, api.ErrForm}, // it begins with a 0, and is above most
		{"\x08\x00\xff\xff\xff\xff\xff\xff\xff", math.MaxUint64, api.ErrForm},
		{"\x01\x0b", 10, api.ErrRange},
		{"\x01\x0b\x00", 10, api.ErrRange}, // it is above most, and bytes are left
		{"\x01\x01", 0, api.ErrRange},
		{"\x08\xff\xff\xff\xff\xff\xff\xff\xff", math.MaxUint64 - 1, api.ErrRange},
		{"\x08\x80\x00\x00\x00\x00\x00\x00\x00", 1<<63 - 1, api.ErrRange},
	} {
		went := false
		if got := Read([]byte(c.b), func(e *Eye) { e.Num(c.most); went = true }); got != c.want || went {
			t.Errorf("% x with most %d: %v, not %v; do went on: %v", c.b, c.most, got, c.want, went)
		}
	}
}

func TestNumReads(t *testing.T) {
	for _, n := range edges() {
		for _, most := range edges() {
			got, want := uint64(0), api.OK
			if n > most {
				want = api.ErrRange
			}
			if e := Read(formOf(n), func(e *Eye) { got = e.Num(most) }); e != want {
				t.Errorf("%d with most %d: %v, not %v", n, most, e, want)
			}
			if want == api.OK && got != n {
				t.Errorf("%d is read as %d", n, got)
			}
		}
	}
}

// checkNum holds a reading of a number against numberIn.
func checkNum(t *testing.T, b []byte, most uint64) {
	t.Helper()
	wantN, end, want := numberIn(b, most)
	n, left := uint64(0), -1
	got := Read(b, func(e *Eye) { n = e.Num(most); left = e.Left() })
	switch {
	case want != api.OK && left != -1:
		t.Fatalf("% x with most %d: do went on", b, most)
	case want == api.OK && (n != wantN || left != len(b)-end):
		t.Fatalf("% x with most %d: %d, and %d left, not %d, %d", b, most, n, left, wantN, len(b)-end)
	case want == api.OK && left > 0:
		want = api.ErrForm
	}
	if got != want {
		t.Fatalf("% x with most %d: %v, not %v", b, most, got, want)
	}
}

func TestNumOfAllShortBytes(t *testing.T) {
	for _, most := range []uint64{0, 1, 10, 255, 256, 0x1234, math.MaxUint64} {
		checkNum(t, nil, most)
		for a := range 256 {
			checkNum(t, []byte{byte(a)}, most)
			for b := range 256 {
				checkNum(t, []byte{byte(a), byte(b)}, most)
				for _, c := range []byte{0, 1, 0x34, 0xff} {
					checkNum(t, []byte{byte(a), byte(b), c}, most)
				}
			}
		}
	}
}

func TestNumOfLongBytes(t *testing.T) {
	next := chain(1)
	mosts := append(edges(), next(), next()>>20)
	for range 20000 {
		b := make([]byte, next()%14)
		for i := range b {
			b[i] = byte(next() >> (next() % 20))
		}
		if len(b) > 1 {
			b[0] = byte(next() % 11)
			b[1] *= byte(next() % 3)
		}
		checkNum(t, b, mosts[next()%uint64(len(mosts))])
	}
}

// P4.2: texts

func TestTextErrors(t *testing.T) {
	for _, c := range []struct {
		b    string
		most int
		want api.Errno
	}{
		{"", 9, api.ErrShort},
		{"", -1, api.ErrShort},
		{"\x09abcdefghi", 9, api.ErrForm},
		{"\x09", -1, api.ErrForm},
		{"\x01", 9, api.ErrShort},
		{"\x01", -1, api.ErrShort},
		{"\x02\x00", 9, api.ErrShort},
		{"\x01\x00", 9, api.ErrForm},
		{"\x01\x00", -1, api.ErrForm},
		{"\x02\x00\x01a", 9, api.ErrForm},
		{"\x01\x03abc", 2, api.ErrRange},
		{"\x01\x05abc", 4, api.ErrRange}, // it is above most, and b ends within
		{"\x01\x01a", 0, api.ErrRange},
		{"\x01\x01a", -1, api.ErrRange},
		{"\x01\x01a", math.MinInt, api.ErrRange},
		{"\x00", -1, api.ErrRange},
		{"\x00", math.MinInt, api.ErrRange},
		{"\x08\xff\xff\xff\xff\xff\xff\xff\xff", math.MaxInt, api.ErrRange},
		{"\x08\xff\xff\xff\xff\xff\xff\xff\xff", -1, api.ErrRange}, // as int both would be -1
		{"\x08\x80\x00\x00\x00\x00\x00\x00\x00", math.MaxInt, api.ErrRange},
		{"\x08\x80\x00\x00\x00\x00\x00\x00\x00", math.MinInt, api.ErrRange},
		{"\x08\x80\x00\x00\x00\x00\x00\x00\x01a", 5, api.ErrRange},
		{"\x08\x7f\xff\xff\xff\xff\xff\xff\xff", math.MaxInt, api.ErrShort},
		{"\x08\x7f\xff\xff\xff\xff\xff\xff\xff", math.MaxInt - 1, api.ErrRange},
		{"\x01\x05abc", 5, api.ErrShort},
		{"\x01\x05abcd", 9, api.ErrShort},
		{"\x01\x01", 9, api.ErrShort},
	} {
		went := false
		if got := Read([]byte(c.b), func(e *Eye) { e.Text(c.most); went = true }); got != c.want || went {
			t.Errorf("% x with most %d: %v, not %v; do went on: %v", c.b, c.most, got, c.want, went)
		}
	}
}

func TestTextReads(t *testing.T) {
	for _, n := range []int{0, 1, 2, 64, 255, 256, 257, 65536} {
		form := append(formOf(uint64(n)), row(n)...)
		for _, most := range []int{math.MinInt, -1, 0, 1, n - 1, n, n + 1, math.MaxInt} {
			got, want := []byte(nil), api.OK
			if n > most {
				want = api.ErrRange
			}
			if e := Read(form, func(e *Eye) { got = e.Text(most) }); e != want {
				t.Errorf("%d bytes with most %d: %v, not %v", n, most, e, want)
			}
			if want == api.OK && !bytes.Equal(got, row(n)) {
				t.Errorf("%d bytes are read as others", n)
			}
		}
	}
}

func TestTextOfAllShortBytes(t *testing.T) {
	check := func(b []byte, most int) {
		wantText, end, want := textIn(b, most)
		text, left := []byte(nil), -1
		got := Read(b, func(e *Eye) { text = e.Text(most); left = e.Left() })
		switch {
		case want != api.OK && left != -1:
			t.Fatalf("% x with most %d: do went on", b, most)
		case want == api.OK && (!bytes.Equal(text, wantText) || left != len(b)-end):
			t.Fatalf("% x with most %d: %q, and %d left", b, most, text, left)
		case want == api.OK && left > 0:
			want = api.ErrForm
		}
		if got != want {
			t.Fatalf("% x with most %d: %v, not %v", b, most, got, want)
		}
	}
	next := chain(2)
	for _, most := range []int{math.MinInt, -1, 0, 1, 2, 3, 255, math.MaxInt} {
		check(nil, most)
		for a := range 256 {
			check([]byte{byte(a)}, most)
			for b := range 256 {
				check([]byte{byte(a), byte(b)}, most)
				check(append([]byte{byte(a), byte(b)}, row(int(next()%12))...), most)
			}
		}
	}
}

// P4.2: digests

func TestIdReads(t *testing.T) {
	for n := range 70 {
		b := row(n)
		d, went, want := api.Id{}, false, api.ErrShort
		switch {
		case n == 32:
			want = api.OK
		case n > 32:
			want = api.ErrForm
		}
		if got := Read(b, func(e *Eye) { d = e.Id(); went = true }); got != want || went != (n >= 32) {
			t.Errorf("of %d bytes: %v, not %v", n, got, want)
		}
		if went && d != api.Id(b[:32]) {
			t.Errorf("of %d bytes: %x", n, d)
		}
	}
}

// P4.2: the end

func TestLeft(t *testing.T) {
	d := digest(1)
	b := written(func(p *Pen) {
		p.Num(0)
		p.Num(300)
		p.Text([]byte("abc"))
		p.Id(d)
		p.Text(nil)
	})
	var lefts []int
	e := Read(b, func(e *Eye) {
		look := func() { lefts = append(lefts, e.Left(), e.Left()) }
		look()
		e.Num(0)
		look()
		e.Num(300)
		look()
		e.Text(3)
		look()
		e.Id()
		look()
		e.Text(0)
		look()
	})
	if e != api.OK || !slices.Equal(lefts, []int{42, 42, 41, 41, 38, 38, 33, 33, 1, 1, 0, 0}) {
		t.Error(e, lefts)
	}
}

func TestBytesThatAreLeft(t *testing.T) {
	for n := range 50 {
		want := api.OK
		if n > 0 {
			want = api.ErrForm
		}
		calls := 0
		if got := Read(row(n), func(e *Eye) { calls++ }); got != want || calls != 1 {
			t.Errorf("%d bytes that nobody reads: %v", n, got)
		}
		if got := Read(row(n), nil); got != want {
			t.Errorf("%d bytes, and no do: %v", n, got)
		}
	}
}

func TestBytesThatAreLeftBehindAField(t *testing.T) {
	for _, c := range []struct {
		b  string
		do func(e *Eye)
	}{
		{"\x00", func(e *Eye) { e.Num(10) }},
		{"\x01\x0a", func(e *Eye) { e.Num(10) }},
		{"\x00", func(e *Eye) { e.Text(9) }},
		{"\x01\x02ab", func(e *Eye) { e.Text(9) }},
		{string(row(32)), func(e *Eye) { e.Id() }},
	} {
		for _, behind := range []string{"\x00", "\x01", "c", "\x01\x0a", "\xff\xff\xff"} {
			left := 0
			if got := Read([]byte(c.b+behind), func(e *Eye) { c.do(e); left = e.Left() }); got != api.ErrForm || left != len(behind) {
				t.Errorf("% x and % x: %v, and %d left", c.b, behind, got, left)
			}
		}
	}
}

// The first field that isn't there is told, whatever follows it.
func TestTheFirstErrorIsTold(t *testing.T) {
	for b, want := range map[string]api.Errno{
		"\x01\x0b\x09":     api.ErrRange,
		"\x01\x0a\x09":     api.ErrForm,
		"\x01\x0a":         api.ErrShort,
		"\x01\x0a\x01":     api.ErrShort,
		"\x01\x0a\x01\x04": api.ErrRange,
		"\x09\x01\x04":     api.ErrForm,
		"\x00\x01\x03abcd": api.ErrForm,
		"\x00\x01\x03abc":  api.OK,
	} {
		if got := Read([]byte(b), func(e *Eye) { e.Num(10); e.Text(3) }); got != want {
			t.Errorf("% x: %v, not %v", b, got, want)
		}
	}
}

func TestFail(t *testing.T) {
	for _, x := range []api.Errno{api.ErrArg, api.ErrShort, api.ErrForm, api.ErrOwner, api.ErrMany, -1, 28, 1000,
		math.MaxInt, math.MinInt} {
		for _, b := range [][]byte{nil, {1}, row(40)} {
			went := false
			if got := Read(b, func(e *Eye) { e.Fail(x); went = true }); got != x || went {
				t.Errorf("Fail(%d) with %d bytes: %v, do went on: %v", int(x), len(b), got, went)
			}
		}
	}
	// Of what holds, the first in do's own order is told.
	if got := Read([]byte{9}, func(e *Eye) { e.Fail(api.ErrOwner); e.Num(1) }); got != api.ErrOwner {
		t.Error(got)
	}
	if got := Read([]byte{9}, func(e *Eye) { e.Num(1); e.Fail(api.ErrOwner) }); got != api.ErrForm {
		t.Error(got)
	}
}

func TestFailOfOKDoesNothing(t *testing.T) {
	n, left := uint64(0), 0
	e := Read([]byte("\x01\x07\x01\x08"), func(e *Eye) {
		e.Fail(api.OK)
		n = e.Num(7)
		e.Fail(api.OK)
		left = e.Left()
		n += e.Num(8)
		e.Fail(api.OK)
	})
	if e != api.OK || n != 15 || left != 2 {
		t.Error(e, n, left)
	}
	if e := Read([]byte{0}, func(e *Eye) { e.Fail(api.OK) }); e != api.ErrForm {
		t.Error(e)
	}
}

// thrown answers what panic a call goes out by (nil: by none).
func thrown(do func()) (x any) {
	defer func() { x = recover() }()
	do()
	return nil
}

func TestAnotherPanicGoesOn(t *testing.T) {
	own := errors.New("own")
	place := new(int)
	for _, x := range []any{"other", 7, own, place, api.OK, api.ErrShort, api.ErrForm, ending{api.ErrForm}, &ending{api.ErrForm}} {
		for _, b := range [][]byte{nil, row(3)} {
			if got := thrown(func() { Read(b, func(*Eye) { panic(x) }) }); got != x {
				t.Errorf("%v goes on as %v", x, got)
			}
		}
	}
	if got := thrown(func() { Read(nil, func(*Eye) { panic([]int{3}) }) }); !slices.Equal(got.([]int), []int{3}) {
		t.Errorf("a list goes on as %v", got)
	}
	none := []int{}
	if _, ok := thrown(func() { Read(nil, func(*Eye) { none[len(none)] = 1 }) }).(runtime.Error); !ok {
		t.Error("an index outside goes on as something else")
	}
	if _, ok := thrown(func() { Read(nil, func(*Eye) { panic(nil) }) }).(*runtime.PanicNilError); !ok {
		t.Error("a panic with nil goes on as something else")
	}
	// A panic that comes while an error goes out goes on, too.
	if got := thrown(func() {
		Read(nil, func(e *Eye) {
			defer func() { panic("behind") }()
			e.Num(1)
		})
	}); got != "behind" {
		t.Errorf("goes on as %v", got)
	}
}

func TestAGoroutineThatEndsInDoEnds(t *testing.T) {
	over, went := make(chan bool), false
	go func() {
		defer close(over)
		Read(nil, func(*Eye) { runtime.Goexit() })
		went = true
	}()
	<-over
	if went {
		t.Error("it went on")
	}
}

func TestReadingsWithinOneAnother(t *testing.T) {
	outer := written(func(p *Pen) { p.Text([]byte("\x01\x07")); p.Num(3) })
	for _, c := range []struct {
		most          uint64
		inner, wanted api.Errno
	}{{7, api.OK, api.OK}, {6, api.ErrRange, api.OK}} {
		n, inner := uint64(0), api.Errno(-1)
		e := Read(outer, func(e *Eye) {
			inner = Read(e.Text(9), func(f *Eye) { f.Num(c.most) })
			n = e.Num(9)
		})
		if e != c.wanted || inner != c.inner || n != 3 {
			t.Error(e, inner, n)
		}
	}
	// What one reading hands on by Fail is the other one's error.
	if e := Read(outer, func(e *Eye) {
		e.Fail(Read(e.Text(9), func(f *Eye) { f.Num(6) }))
		t.Error("on")
	}); e != api.ErrRange {
		t.Error(e)
	}
}

// An error of the outer reading's is none of the inner one's, and ends both.
func TestAnOuterErrorEndsTheOuterReading(t *testing.T) {
	for want, end := range map[api.Errno]func(e *Eye){
		api.ErrOwner: func(e *Eye) { e.Fail(api.ErrOwner) },
		api.ErrRange: func(e *Eye) { e.Num(2) },
		api.ErrShort: func(e *Eye) { e.Id() },
	} {
		if e := Read([]byte("\x01\x03"), func(e *Eye) {
			Read([]byte{1, 2, 3}, func(f *Eye) {
				end(e)
				t.Error("the inner do went on")
			})
			t.Error("the outer do went on")
		}); e != want {
			t.Errorf("%v, not %v", e, want)
		}
	}
}

// A do that catches the panic by itself gets no further: each field fails again.
func TestAnErrorThatDoCatchesIsTold(t *testing.T) {
	for want, end := range map[api.Errno]func(e *Eye){
		api.ErrOwner: func(e *Eye) { e.Fail(api.ErrOwner) },
		api.ErrRange: func(e *Eye) { e.Num(2) },
		api.ErrShort: func(e *Eye) { e.Id() },
	} {
		e := Read([]byte("\x01\x03\x00\x00"), func(e *Eye) {
			for i, again := range []func(){func() { end(e) }, func() { e.Num(math.MaxUint64) }, func() { e.Text(9) },
				func() { e.Id() }, func() { e.Fail(api.ErrMany) }} {
				if thrown(again) == nil {
					t.Errorf("behind %v call %d went on", want, i)
				}
			}
			e.Fail(api.OK)
			e.Left()
		})
		if e != want {
			t.Errorf("%v, not %v", e, want)
		}
	}
}

// An eye that is kept behind its Read sees nothing, and panics no more.
func TestAnEyeBehindItsReadIsShut(t *testing.T) {
	b := []byte("\x01\x07\x01\x08")
	for _, do := range []func(e *Eye){
		func(e *Eye) { e.Num(7) },
		func(e *Eye) { e.Num(6) },
		func(e *Eye) { panic("other") },
	} {
		kept := new(Eye)
		thrown(func() { Read(b, func(e *Eye) { kept = e; do(e) }) })
		if x := thrown(func() {
			kept.Fail(api.ErrOwner)
			if kept.Num(9) != 0 || len(kept.Text(9)) != 0 || len(kept.Text(-1)) != 0 || kept.Id() != (api.Id{}) || kept.Left() != 0 {
				t.Error("it sees something")
			}
		}); x != nil {
			t.Errorf("it panics: %v", x)
		}
	}
}

// What is handed in is neither changed nor shared, nor read behind its length.
func TestAnEyeSharesNoMemory(t *testing.T) {
	whole := []byte("\x01\x03abc\x00\x01\x01d\x01\x02ef")
	was := bytes.Clone(whole)
	b := whole[:9]
	var texts [][]byte
	read := func() api.Errno {
		texts = nil
		return Read(b, func(e *Eye) {
			for range 3 {
				text := e.Text(3)
				for i := range text {
					texts = append(texts, text[i:i+1:i+1])
					text[i]++
				}
				_ = append(text, 0xee, 0xee)
			}
		})
	}
	for range 2 {
		if e := read(); e != api.OK || string(bytes.Join(texts, nil)) != "bcde" || !bytes.Equal(whole, was) {
			t.Errorf("%v, %q, % x", e, texts, whole)
		}
	}
	for i := range whole {
		whole[i] = 0xee
	}
	if string(bytes.Join(texts, nil)) != "bcde" {
		t.Errorf("%q are shared", texts)
	}
	if e := Read(was[:9], func(e *Eye) { e.Num(3); e.Text(9) }); e == api.OK {
		t.Error("a text of other bytes")
	}
	if e := Read(was[:4], func(e *Eye) { e.Text(3) }); e != api.ErrShort {
		t.Errorf("read behind its length: %v", e)
	}
}

// P4.3

// script is fields that can be written, and read again.
type script struct {
	kinds []uint64
	nums  []uint64
	texts [][]byte
	ids   []api.Id
}

// some answers a script of n fields.
func some(n int) script {
	next, s := chain(uint64(n)), script{}
	for range n {
		s.kinds = append(s.kinds, next()%3)
		s.nums = append(s.nums, (next()<<30^next())>>(next()%65))
		s.texts = append(s.texts, row(int(next()%300>>(next()%9))))
		s.ids = append(s.ids, digest(byte(next())))
	}
	return s
}

func (s script) write(p *Pen) {
	for i, kind := range s.kinds {
		switch kind {
		case 0:
			p.Num(s.nums[i])
		case 1:
			p.Text(s.texts[i])
		case 2:
			p.Id(s.ids[i])
		}
	}
}

func (s script) read(t *testing.T, e *Eye) {
	for i, kind := range s.kinds {
		if kind == 0 && e.Num(s.nums[i]) != s.nums[i] ||
			kind == 1 && !bytes.Equal(e.Text(len(s.texts[i])), s.texts[i]) ||
			kind == 2 && e.Id() != s.ids[i] {
			t.Fatalf("field %d of %d is read as another one", i, len(s.kinds))
		}
	}
}

func TestWhatWasWrittenIsReadAsItWas(t *testing.T) {
	for n := range 200 {
		s := some(n)
		b := written(s.write)
		if e := Read(b, func(e *Eye) { s.read(t, e) }); e != api.OK {
			t.Errorf("%d fields: %v", n, e)
		}
		if e := Read(append(b, 0), func(e *Eye) { s.read(t, e) }); e != api.ErrForm {
			t.Errorf("%d fields and a byte: %v", n, e)
		}
	}
}

func TestWhatIsCutIsShort(t *testing.T) {
	for n := range 40 {
		s := some(n)
		b := written(s.write)
		for end := range b {
			if e := Read(b[:end], func(e *Eye) { s.read(t, e) }); e != api.ErrShort {
				t.Errorf("%d of %d bytes: %v", end, len(b), e)
			}
		}
	}
}

// again reads fields by their kinds' names, and writes them anew.
func again(b []byte, kinds string) ([]byte, api.Errno) {
	var p Pen
	x := Read(b, func(e *Eye) {
		for _, kind := range kinds {
			switch kind {
			case 'n':
				p.Num(e.Num(math.MaxUint64))
			case 't':
				p.Text(e.Text(math.MaxInt))
			case 'd':
				p.Id(e.Id())
			}
		}
	})
	return p.Bytes(), x
}

// Whatever bytes are read without an error, they are the only ones of these fields.
func TestWhatIsReadHasJustTheseBytes(t *testing.T) {
	read := 0
	check := func(b []byte, kinds string) {
		got, x := again(b, kinds)
		if x != api.OK {
			return
		}
		read++
		if !bytes.Equal(got, b) {
			t.Fatalf("% x is read as %s, and written as % x", b, kinds, got)
		}
	}
	for _, kinds := range []string{"", "n", "t", "d", "nn", "nt", "tn", "tt", "nnn"} {
		check(nil, kinds)
		for a := range 256 {
			check([]byte{byte(a)}, kinds)
			for b := range 256 {
				check([]byte{byte(a), byte(b)}, kinds)
			}
		}
		for n := 3; n < 7; n++ {
			for code := range 1 << (2 * n) {
				b := make([]byte, n)
				for i := range b {
					b[i] = byte(code >> (2 * i) & 3)
				}
				check(b, kinds)
			}
		}
	}
	if read < 2000 {
		t.Error("only " + strconv.Itoa(read) + " were read")
	}
}

// Each bit that is turned in what was written makes an error, or other fields.
func TestATurnedBitIsSeen(t *testing.T) {
	b := written(func(p *Pen) {
		p.Num(300)
		p.Num(0)
		p.Text([]byte("ab"))
		p.Id(digest(3))
		p.Num(math.MaxUint64)
	})
	for bit := range 8 * len(b) {
		turned := bytes.Clone(b)
		turned[bit/8] ^= 1 << (bit % 8)
		if got, x := again(turned, "nntdn"); x == api.OK && !bytes.Equal(got, turned) {
			t.Errorf("with bit %d turned it is read as it was", bit)
		}
	}
}

func FuzzReadAndWrite(f *testing.F) {
	f.Add([]byte("\x02\x01\x2c\x00\x01\x02ab"), "nnt")
	f.Add(append([]byte{0}, row(32)...), "nd")
	f.Fuzz(func(t *testing.T, b []byte, kinds string) {
		if got, x := again(b, kinds); x == api.OK && !bytes.Equal(got, b) {
			t.Errorf("% x is read as %q, and written as % x", b, kinds, got)
		}
	})
}

func TestTheSameCallHasTheSameAnswer(t *testing.T) {
	s := some(50)
	b := written(s.write)
	for range 3 {
		if !bytes.Equal(written(s.write), b) {
			t.Error("other bytes")
		}
		if x := Read(b, func(e *Eye) { s.read(t, e) }); x != api.OK {
			t.Error(x)
		}
		if x := Read(b[1:], func(e *Eye) { e.Fail(api.ErrKind) }); x != api.ErrKind {
			t.Error(x)
		}
	}
}
