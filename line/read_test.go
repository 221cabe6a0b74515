package line_test

import (
	"bytes"
	"math"
	"math/big"
	"slices"
	"strings"
	"testing"

	"seisin/api"
	"seisin/line"
)

// reader reads fields by the document's words, and keeps the first error.
type reader struct {
	rest []byte
	e    api.Errno
}

// cut takes n bytes off, or tells that they aren't there.
func (r *reader) cut(n int) []byte {
	if r.e == api.OK && n > len(r.rest) {
		r.e = api.ErrShort
	}
	if r.e != api.OK {
		return nil
	}
	b := r.rest[:n]
	r.rest = r.rest[n:]
	return b
}

func (r *reader) num(most int) int {
	head := r.cut(1)
	if r.e == api.OK && head[0] > 8 {
		r.e = api.ErrForm
	}
	if r.e != api.OK {
		return 0
	}
	b := r.cut(int(head[0]))
	n := new(big.Int).SetBytes(b)
	switch {
	case r.e != api.OK:
	case len(b) > 0 && b[0] == 0:
		r.e = api.ErrForm
	case n.Cmp(big.NewInt(int64(most))) > 0:
		r.e = api.ErrRange
	}
	if r.e != api.OK {
		return 0
	}
	return int(n.Int64())
}

// readBy reads a line by the document's words. Where bytes are left behind a line
// whose last index would be too great, either error is one of those that it
// answers.
func readBy(b []byte) (*log, []api.Errno) {
	r := &reader{rest: b}
	base := r.num(highest)
	term := r.num(highest)
	v := &log{base: base, term: term, last: base, items: map[int]api.Item{}}
	for range r.num(mostItems) {
		it := api.Item{Term: r.num(highest)}
		it.B = r.cut(r.num(mostItem))
		v.last++
		v.items[v.last] = it
	}
	if r.e != api.OK {
		return nil, []api.Errno{r.e}
	}
	var all []api.Errno
	if len(r.rest) > 0 {
		all = append(all, api.ErrForm)
	}
	if v.last > highest {
		all = append(all, api.ErrLong)
	}
	if len(all) > 0 {
		return nil, all
	}
	return v, []api.Errno{api.OK}
}

// checkRead holds a reading against readBy; it answers the error.
func checkRead(t *testing.T, b []byte) api.Errno {
	t.Helper()
	v, all := readBy(b)
	l, x := line.Read(b)
	if !slices.Contains(all, x) || (l != nil) != (x == api.OK) {
		t.Fatalf("% .99x is read with %v, not %v; a line: %v", b, x, all, l != nil)
	}
	if x != api.OK {
		return x
	}
	pair{l, v}.is(t, "what is read")
	if back := l.Put(); !bytes.Equal(back, b) {
		t.Fatalf("% .99x is put as % .99x", b, back)
	}
	return api.OK
}

// expect is checkRead, with the error that is known.
func expect(t *testing.T, what string, b []byte, want api.Errno) {
	t.Helper()
	if got := checkRead(t, b); got != want {
		t.Errorf("%s: % .99x: %v, not %v", what, b, got, want)
	}
}

// plain is a line with some items, one of them without bytes.
func plain(t *testing.T) pair {
	t.Helper()
	return filled(t, 300, 70000, []api.Item{{Term: 1, B: []byte("ab")}, {Term: 256}, {Term: highest, B: row(4, 300)}})
}

// forms are forms of lines of many kinds.
func forms(t *testing.T) [][]byte {
	t.Helper()
	list := [][]byte{plain(t).v.form()}
	for k, p := range few(t) {
		if k%3 == 0 {
			list = append(list, p.v.form())
		}
	}
	return list
}

// fieldOf is a field of a form by itself: what it is, its bytes, and what it is
// at most. Of what are a text's bytes there is no most, and no name.
type fieldOf struct {
	what string
	b    string
	most int
}

// fieldsOf are those of the plain line's form, in their order.
func fieldsOf(t *testing.T) []fieldOf {
	t.Helper()
	v := plain(t).v
	all := []fieldOf{{"base", string(numOf(v.base)), highest}, {"the base's term", string(numOf(v.term)), highest}, {"how many items", string(numOf(3)), mostItems}}
	for i := v.base + 1; i <= v.last; i++ {
		b := v.items[i].B
		all = append(all, fieldOf{"an item's term", string(numOf(v.items[i].Term)), highest}, fieldOf{"an item's length", string(numOf(len(b))), mostItem}, fieldOf{b: string(b)})
	}
	return all
}

// joined is the form that fields have.
func joined(list []fieldOf) []byte {
	var b strings.Builder
	for _, f := range list {
		b.WriteString(f.b)
	}
	return []byte(b.String())
}

// eachNumber calls do with each number of the plain line's form: the fields, and
// where it stands among them. What do changes there is its own.
func eachNumber(t *testing.T, do func(list []fieldOf, at int)) {
	t.Helper()
	for at, f := range fieldsOf(t) {
		if f.what != "" {
			do(fieldsOf(t), at)
		}
	}
}

// numBytes is a number's form, also of one that is no int.
func numBytes(n uint64) string {
	b := new(big.Int).SetUint64(n).Bytes()
	return string(append([]byte{byte(len(b))}, b...))
}

// none are fields of numbers that aren't such.
func none() []string {
	return []string{"\x01\x00", "\x02\x00\x01", "\x03\x00\x01\x01", "\x08\x00\x01\x01\x01\x01\x01\x01\x01",
		"\x09\x01\x01\x01\x01\x01\x01\x01\x01\x01", "\x80\x01", "\xff\x01"}
}

// P17.3

func TestPutByHand(t *testing.T) {
	l := line.New(4, 2)
	if got := string(l.Put()); got != "\x01\x04\x01\x02\x00" {
		t.Errorf("% x", got)
	}
	l.Add(api.Item{Term: 3})
	l.Add(api.Item{B: []byte("xyz")})
	l.Add(api.Item{Term: 300, B: make([]byte, 256)})
	want := "\x01\x04\x01\x02\x01\x03" + "\x01\x03\x00" + "\x00\x01\x03xyz" + "\x02\x01\x2c\x02\x01\x00" + strings.Repeat("\x00", 256)
	if got := string(l.Put()); got != want {
		t.Errorf("% x", got)
	}
	if got := string(line.New(0, 0).Put()); got != "\x00\x00\x00" {
		t.Errorf("% x", got)
	}
	if got := string(line.New(highest, highest).Put()); got != "\x06\x01\x00\x00\x00\x00\x00\x06\x01\x00\x00\x00\x00\x00\x00" {
		t.Errorf("% x", got)
	}
}

func TestReadByHand(t *testing.T) {
	l, x := line.Read([]byte("\x01\x04\x01\x02\x01\x02\x01\x03\x00\x00\x01\x03xyz"))
	if x != api.OK || l == nil {
		t.Fatal(x)
	}
	base, term := l.Base()
	if last, lastTerm := l.Last(); base != 4 || term != 2 || last != 6 || lastTerm != 0 {
		t.Error(base, term, last, lastTerm)
	}
	list := l.From(5, 9)
	if !sameItems(list, []api.Item{{Term: 3}, {B: []byte("xyz")}}) {
		t.Error(list)
	}
}

// A line that is read is one like any other.
func TestWhatIsReadGoesOn(t *testing.T) {
	for k := range changes(t) {
		for _, p := range few(t) {
			l, x := line.Read(p.v.form())
			if x != api.OK || l == nil {
				t.Fatalf("no line is read: %v", x)
			}
			q := pair{l, p.v.copied()}
			q.whole(t, "what is read")
			if p.v.last+3 <= highest {
				changes(t)[k](q)
				q.whole(t, "what is read, changed")
			}
			p.is(t, "what was put")
			q.add(t, api.Item{Term: 3, B: []byte("more")})
			checkRead(t, q.v.form())
		}
	}
}

func TestReadOfForms(t *testing.T) {
	for _, b := range forms(t) {
		expect(t, "a form", b, api.OK)
	}
	expect(t, "fields", joined(fieldsOf(t)), api.OK)
	if !bytes.Equal(joined(fieldsOf(t)), plain(t).v.form()) {
		t.Error("the fields are no form")
	}
}

func TestReadOfWhatIsCut(t *testing.T) {
	for _, b := range forms(t) {
		for end := range b {
			expect(t, "a form cut short", b[:end], api.ErrShort)
		}
	}
	expect(t, "nil", nil, api.ErrShort)
	expect(t, "no bytes", []byte{}, api.ErrShort)
}

func TestReadOfBytesBehind(t *testing.T) {
	for _, b := range forms(t) {
		for x := range 256 {
			expect(t, "a byte behind", append(bytes.Clone(b), byte(x)), api.ErrForm)
		}
		expect(t, "two behind one another", append(bytes.Clone(b), b...), api.ErrForm)
		expect(t, "many behind", append(bytes.Clone(b), make([]byte, 5000)...), api.ErrForm)
	}
}

func TestReadOfNumbersThatAreNone(t *testing.T) {
	eachNumber(t, func(list []fieldOf, at int) {
		for _, b := range none() {
			list[at].b = b
			expect(t, list[at].what, joined(list), api.ErrForm)
			expect(t, list[at].what, joined(list[:at+1]), api.ErrForm)
		}
	})
}

func TestReadOfNumbersOutside(t *testing.T) {
	eachNumber(t, func(list []fieldOf, at int) {
		most := uint64(list[at].most)
		for _, above := range []uint64{most + 1, most + 2, most + 256, most + 1<<32, 1<<63 - 1, 1 << 63, 1<<63 + 1, math.MaxUint64} {
			list[at].b = numBytes(above)
			expect(t, list[at].what, joined(list), api.ErrRange)
			// Nothing is looked at behind it.
			expect(t, list[at].what, joined(list[:at+1]), api.ErrRange)
		}
	})
}

func TestReadOfTermsAtTheirEdges(t *testing.T) {
	for at, f := range fieldsOf(t) {
		if f.most != highest || f.what == "base" {
			continue
		}
		for _, n := range []int{0, 1, 255, 256, 65536, 1<<32 - 1, 1 << 32, highest - 1, highest} {
			list := fieldsOf(t)
			list[at].b = string(numOf(n))
			expect(t, f.what, joined(list), api.OK)
		}
	}
}

// Of two faults the one of the field ahead is told.
func TestReadOfTheFirstFault(t *testing.T) {
	eachNumber(t, func(list []fieldOf, i int) {
		for j := i + 1; j < len(list); j++ {
			if list[j].what == "" {
				continue
			}
			what := list[i].what + " ahead of " + list[j].what
			turned := slices.Clone(list)
			turned[i].b, turned[j].b = string(numOf(list[i].most+1)), "\x01\x00"
			expect(t, what, joined(turned), api.ErrRange)
			turned[i].b, turned[j].b = "\x01\x00", string(numOf(list[j].most+1))
			expect(t, what, joined(turned), api.ErrForm)
			expect(t, what+", cut short", joined(turned[:j]), api.ErrForm)
			expect(t, what+", bytes behind", append(joined(turned), 0), api.ErrForm)
		}
	})
}

func TestReadOfHowManyItems(t *testing.T) {
	for _, n := range []int{0, 1, 2, 15, 16, 17, 255, 256, 257, mostItems - 1, mostItems, mostItems + 1, mostItems + 2, 2 * mostItems, 70000} {
		want, short, longer := api.OK, api.ErrShort, api.ErrForm
		if n > mostItems {
			want, short, longer = api.ErrRange, api.ErrRange, api.ErrRange
		}
		head := "\x01\x07\x01\x02" + string(numOf(n))
		expect(t, "items", []byte(head+strings.Repeat("\x01\x05\x01\x02ab", n)), want)
		b := []byte(head + strings.Repeat("\x00\x00", n))
		expect(t, "items of zeros", b, want)
		expect(t, "one item more", append(bytes.Clone(b), 0, 0), longer)
		if n > 0 {
			expect(t, "one item less", b[:len(b)-2], short)
			expect(t, "items that aren't there", []byte(head), short)
		}
	}
	for _, n := range []uint64{1 << 31, 1 << 32, 1 << 40, 1 << 63, math.MaxUint64} {
		expect(t, "items without number", []byte("\x00\x00"+numBytes(n)), api.ErrRange)
		expect(t, "items without number", []byte("\x00\x00"+numBytes(n)+"\x00\x00"), api.ErrRange)
	}
}

func TestReadOfItemsBytes(t *testing.T) {
	for _, ahead := range []int{0, 1, 5} {
		head := "\x01\x07\x01\x02" + string(numOf(ahead+1)) + strings.Repeat("\x00\x00", ahead) + "\x01\x07"
		for _, n := range []int{0, 1, 2, 255, 256, 257, mostItem - 1, mostItem, mostItem + 1, mostItem + 2, 2 * mostItem, 1 << 20} {
			want, short := api.OK, api.ErrShort
			if n > mostItem {
				want, short = api.ErrRange, api.ErrRange
			}
			b := append([]byte(head), textOf(row(n, n))...)
			expect(t, "an item's bytes", b, want)
			if n > 0 {
				expect(t, "an item's bytes, cut short", b[:len(b)-1], short)
				expect(t, "an item's length alone", b[:len(b)-n], short)
			}
		}
	}
}

// headOf is the front of a form, up to how many items there are.
func headOf(base, term, many int) string {
	return string(slices.Concat(numOf(base), numOf(term), numOf(many)))
}

func TestReadOfLinesThatAreTooLong(t *testing.T) {
	for _, base := range []int{highest, highest - 1, highest - 2, highest - 3, highest - 255, highest - mostItems, highest - mostItems + 1, highest - mostItems - 1} {
		for _, many := range []int{0, 1, 2, 3, 4, 255, 256, mostItems - 1, mostItems} {
			want := api.OK
			if base+many > highest {
				want = api.ErrLong
			}
			b := []byte(headOf(base, 9, many) + strings.Repeat("\x01\x03\x01\x01x", many))
			expect(t, "a last index", b, want)
			if x := checkRead(t, append(bytes.Clone(b), 0)); x != api.ErrForm && x != api.ErrLong {
				t.Errorf("base %d, %d items, and a byte behind: %v", base, many, x)
			}
		}
	}
}

// The errors of all fields come ahead of that.
func TestReadOfLinesThatAreTooLongAndHaveOtherFaults(t *testing.T) {
	const items = "\x01\x03\x01\x01x\x01\x03\x01\x01x"
	for _, base := range []int{highest, highest - 1} {
		head := headOf(base, 9, 3)
		expect(t, "too long", []byte(head+items+"\x00\x00"), api.ErrLong)
		whole := head + items + "\x01\x03\x01\x01x"
		for end := range whole {
			expect(t, "too long, cut short", []byte(whole[:end]), api.ErrShort)
		}
		for _, b := range none() {
			expect(t, "too long, a term that is none", []byte(head+items+b+"\x00"), api.ErrForm)
			expect(t, "too long, a length that is none", []byte(head+items+"\x00"+b), api.ErrForm)
		}
		expect(t, "too long, a term outside", []byte(head+items+string(numOf(highest+1))+"\x00"), api.ErrRange)
		expect(t, "too long, a length outside", []byte(head+items+"\x00"+string(numOf(mostItem+1))), api.ErrRange)
		expect(t, "too many items", []byte(headOf(base, 9, mostItems+1)), api.ErrRange)
		expect(t, "a term outside", []byte(headOf(base, highest+1, 3)+items+"\x00\x00"), api.ErrRange)
	}
	expect(t, "a base outside", []byte(headOf(highest+1, 0, 0)), api.ErrRange)
	expect(t, "a base outside", []byte(headOf(highest+1, 0, 1)+"\x00\x00"), api.ErrRange)
}

func TestReadOfAllShortBytes(t *testing.T) {
	for a := range 256 {
		checkRead(t, []byte{byte(a)})
		for b := range 256 {
			checkRead(t, []byte{byte(a), byte(b)})
			checkRead(t, append([]byte{byte(a), byte(b)}, make([]byte, 5)...))
			checkRead(t, append([]byte{byte(a), byte(b)}, 1, 1, 1, 1, 1, 1, 1, 1, 1))
		}
	}
	// All rows of these bytes: many of them are forms.
	few, read := []byte{0, 1, 2, 5}, 0
	for n := range 9 {
		for code := range 1 << (2 * n) {
			var b []byte
			for i := range n {
				b = append(b, few[code>>(2*i)&3])
			}
			if checkRead(t, b) == api.OK {
				read++
			}
		}
	}
	if read < 1000 {
		t.Errorf("only %d were read", read)
	}
}

// Each byte of a form is changed, left out, and has another one put ahead of it.
func TestReadOfFormsWithAByteTurned(t *testing.T) {
	for _, form := range forms(t) {
		for at := range form {
			checkRead(t, slices.Delete(bytes.Clone(form), at, at+1))
			for x := range 256 {
				changed := bytes.Clone(form)
				changed[at] = byte(x)
				checkRead(t, changed)
				checkRead(t, slices.Insert(bytes.Clone(form), at, byte(x)))
			}
		}
	}
}

// The greatest line that there may be.
func TestTheGreatestLine(t *testing.T) {
	items := make([]api.Item, mostItems)
	for i := range items {
		items[i] = api.Item{Term: highest, B: make([]byte, mostItem)}
		items[i].B[i%mostItem] = byte(i)
	}
	l := line.New(highest-mostItems, highest)
	if at, ok := l.Join(highest-mostItems, highest, items); at != highest-mostItems+1 || !ok {
		t.Fatal(at, ok)
	}
	m, x := line.Read(l.Put())
	if x != api.OK || m == nil {
		t.Fatal(x)
	}
	if !sameItems(m.From(highest-mostItems+1, mostItems), items) || m.Add(api.Item{}) != 0 {
		t.Error("another line is read")
	}
}

// What is handed in is neither changed, nor kept, nor read behind its length.
func TestReadSharesNoMemory(t *testing.T) {
	p := plain(t)
	room := append(p.v.form(), 1, 2, 3)
	was, n := bytes.Clone(room), len(room)-3
	l, x := line.Read(room[:n])
	if x != api.OK || !bytes.Equal(room, was) {
		t.Fatalf("%v", x)
	}
	if _, x := line.Read(room[:n-1]); x != api.ErrShort {
		t.Errorf("read behind its length: %v", x)
	}
	other, _ := line.Read(room[:n])
	for i := range room {
		room[i] = 0xee
	}
	a, b := pair{l, p.v.copied()}, pair{other, p.v.copied()}
	a.whole(t, "bytes written over")
	a.join(t, 300, 70000, ofTerms(3, 9, 9))
	b.is(t, "another line of the same form")
	spoil(b.l.From(301, 9))
	spoil([]api.Item{{B: b.l.Put()}})
	b.whole(t, "answers written over")
	a.whole(t, "joined")
}

func FuzzRead(f *testing.F) {
	for _, b := range []string{"\x00\x00\x00", "\x01\x04\x01\x02\x01\x02\x01\x03\x00\x00\x01\x03xyz", "\x06\x01\x00\x00\x00\x00\x00\x00\x01\x01\x00\x00"} {
		f.Add([]byte(b))
	}
	f.Fuzz(func(t *testing.T, b []byte) { checkRead(t, b) })
}
