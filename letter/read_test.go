package letter_test

import (
	"bytes"
	"math"
	"math/big"
	"slices"
	"strings"
	"testing"

	"seisin/api"
	"seisin/letter"
)

// reader reads fields by the document's words, and keeps the first error.
type reader struct {
	rest []byte
	e    api.Errno
}

// cut takes n bytes off, or tells that they aren't there.
func (r *reader) cut(n int) []byte {
	if r.e == api.OK && n > len(r.rest) {
		r.e = api.ErrShort
	}
	if r.e != api.OK {
		return nil
	}
	b := r.rest[:n]
	r.rest = r.rest[n:]
	return b
}

func (r *reader) num(most uint64) int {
	head := r.cut(1)
	if r.e == api.OK && head[0] > 8 {
		r.e = api.ErrForm
	}
	if r.e != api.OK {
		return 0
	}
	b := r.cut(int(head[0]))
	n := new(big.Int).SetBytes(b)
	switch {
	case r.e != api.OK:
	case len(b) > 0 && b[0] == 0:
		r.e = api.ErrForm
	case n.Cmp(new(big.Int).SetUint64(most)) > 0:
		r.e = api.ErrRange
	}
	if r.e != api.OK {
		return 0
	}
	return int(n.Int64())
}

func (r *reader) text(most uint64) []byte { return r.cut(r.num(most)) }

func (r *reader) items() []api.Item {
	var list []api.Item
	for range r.num(mostItems) {
		list = append(list, api.Item{Term: r.num(highest), B: r.text(mostItem)})
	}
	return list
}

// part reads one part of a letter.
func (r *reader) part(l *api.Letter, part rune) {
	switch part {
	case 'Y':
		l.Yes = r.num(1) == 1
	case 'I':
		l.Items = r.items()
	case 'B':
		l.B = r.text(mostState)
	default:
		set(l, part, r.num(highest))
	}
}

// readBy reads a letter by the document's words.
func readBy(b []byte) (api.Letter, api.Errno) {
	r := &reader{rest: b}
	l := api.Letter{Kind: r.num(5)}
	if r.e == api.OK && l.Kind == 0 {
		return api.Letter{}, api.ErrKind
	}
	l.Term = r.num(highest)
	used, _ := uses(l.Kind)
	for _, part := range used {
		r.part(&l, part)
	}
	switch {
	case r.e != api.OK:
		return api.Letter{}, r.e
	case len(r.rest) > 0:
		return api.Letter{}, api.ErrForm
	}
	return l, api.OK
}

// checkRead holds a reading against readBy; it answers the error.
func checkRead(t *testing.T, b []byte) api.Errno {
	t.Helper()
	want, x := readBy(b)
	got, gotX := letter.Read(b)
	if gotX != x || !sameBy(got, want) {
		t.Fatalf("%.99x is read as%s, %v, not%s, %v", b, told(got), gotX, told(want), x)
	}
	if x != api.OK {
		return x
	}
	if !letter.Right(got) {
		t.Fatalf("%.99x is read as%s, which isn't right", b, told(got))
	}
	if back, ok := letter.Put(got); !ok || !bytes.Equal(back, b) {
		t.Fatalf("%.99x is put as %.99x, %v", b, back, ok)
	}
	return api.OK
}

// expect is checkRead, with the error that is known.
func expect(t *testing.T, what string, b []byte, want api.Errno) {
	t.Helper()
	if got := checkRead(t, b); got != want {
		t.Errorf("%s: %.99x: %v, not %v", what, b, got, want)
	}
}

// forms are forms of right letters of all kinds and many sizes.
func forms() [][]byte {
	var list [][]byte
	for _, kind := range kinds() {
		list = append(list, formOf(plain(kind)), formOf(api.Letter{Kind: kind}), formOf(api.Letter{Kind: kind, Term: highest}))
	}
	for _, l := range []api.Letter{
		{Kind: 1, At: highest, AtTerm: highest},
		{Kind: 2, Yes: true},
		{Kind: 3, At: highest, AtTerm: highest, To: highest, Items: []api.Item{{Term: highest, B: row(20)}}},
		{Kind: 3, To: 1, Items: make([]api.Item, mostItems)},
		{Kind: 4, Yes: true, At: highest, To: highest},
		{Kind: 5, At: highest, AtTerm: highest, B: row(50)},
	} {
		list = append(list, formOf(l))
	}
	return list
}

// fieldOf is a field of a form by itself: what it is, its bytes, and what it is
// at most, or what its length is.
type fieldOf struct {
	what string
	b    string
	most uint64
}

// fieldsOf are those of a plain letter's form, in their order, each text a
// length and bytes (of which there is no most).
func fieldsOf(kind int) []fieldOf {
	l := plain(kind)
	num := func(what string, n int, most uint64) fieldOf { return fieldOf{what, string(numOf(uint64(n))), most} }
	all := []fieldOf{num("kind", kind, 5), num("term", l.Term, highest)}
	used, _ := uses(kind)
	for _, part := range used {
		switch part {
		case 'Y':
			all = append(all, num("Yes", 1, 1))
		case 'I':
			all = append(all, num("how many items", len(l.Items), mostItems))
			for _, it := range l.Items {
				all = append(all, num("an item's term", it.Term, highest), num("an item's length", len(it.B), mostItem), fieldOf{b: string(it.B)})
			}
		case 'B':
			all = append(all, num("a state's length", len(l.B), mostState), fieldOf{b: string(l.B)})
		default:
			all = append(all, fieldOf{"the number " + string(part), string(partOf(l, part)), highest})
		}
	}
	return all
}

// joined is the form that fields have.
func joined(list []fieldOf) []byte {
	var b strings.Builder
	for _, f := range list {
		b.WriteString(f.b)
	}
	return []byte(b.String())
}

// eachNumber calls do with each number of a plain form of each kind: the fields,
// and where it stands among them. What do changes there is its own.
func eachNumber(do func(list []fieldOf, at int)) {
	for _, kind := range kinds() {
		for at, f := range fieldsOf(kind) {
			if f.what != "" {
				do(fieldsOf(kind), at)
			}
		}
	}
}

// P15.2

func TestReadOfForms(t *testing.T) {
	for _, b := range forms() {
		expect(t, "a form", b, api.OK)
	}
	for _, kind := range kinds() {
		expect(t, "fields", joined(fieldsOf(kind)), api.OK)
		if b := joined(fieldsOf(kind)); !bytes.Equal(b, formOf(plain(kind))) {
			t.Errorf("kind %d: the fields are % x", kind, b)
		}
	}
	for _, l := range many() {
		expect(t, "one of many", formOf(l), api.OK)
	}
}

// The document's example.
func TestReadOfTheExample(t *testing.T) {
	got, x := letter.Read([]byte("\x01\x02\x01\x01\x01\x01"))
	if want := (api.Letter{Kind: 2, Term: 1, Yes: true}); x != api.OK || !letter.Same(got, want) {
		t.Errorf("%s, %v", told(got), x)
	}
}

// Kind 0 is told as soon as it is read, whatever follows it, or doesn't.
func TestReadOfKind0(t *testing.T) {
	expect(t, "kind 0", []byte{0}, api.ErrKind)
	for _, kind := range kinds() {
		list := fieldsOf(kind)
		list[0].b = "\x00"
		b := joined(list)
		for end := 1; end <= len(b); end++ {
			expect(t, "kind 0, cut short", b[:end], api.ErrKind)
		}
		for at := 1; at < len(list); at++ {
			for _, fault := range []string{"\x01\x00", "\x09", "\xff", "\x08\xff\xff\xff\xff\xff\xff\xff\xff", "\x02\x01"} {
				turned := slices.Clone(list)
				turned[at].b = fault
				expect(t, "kind 0, and a fault", joined(turned), api.ErrKind)
			}
		}
		expect(t, "kind 0, and bytes behind", append(b, 0), api.ErrKind)
	}
	for x := range 256 {
		expect(t, "kind 0, and a byte", []byte{0, byte(x)}, api.ErrKind)
	}
	// A kind that isn't read is not 0.
	expect(t, "a kind that begins with 0", []byte("\x01\x00"), api.ErrForm)
	expect(t, "no bytes", nil, api.ErrShort)
}

func TestReadOfKindsThatThereArent(t *testing.T) {
	for _, kind := range []uint64{6, 7, 8, 255, 256, 257, 261, 65537, 1<<32 + 1, 1 << 63, 1<<63 + 1, math.MaxUint64} {
		expect(t, "a kind alone", numOf(kind), api.ErrRange)
		for _, as := range kinds() {
			list := fieldsOf(as)
			list[0].b = string(numOf(kind))
			expect(t, "a kind", joined(list), api.ErrRange)
		}
	}
}

func TestReadOfWhatIsCut(t *testing.T) {
	for _, b := range forms() {
		for end := range b {
			expect(t, "a form cut short", b[:end], api.ErrShort)
		}
	}
	expect(t, "nil", nil, api.ErrShort)
	expect(t, "no bytes", []byte{}, api.ErrShort)
}

func TestReadOfBytesBehind(t *testing.T) {
	for _, b := range forms() {
		for x := range 256 {
			expect(t, "a byte behind", append(bytes.Clone(b), byte(x)), api.ErrForm)
		}
		expect(t, "two behind one another", append(bytes.Clone(b), b...), api.ErrForm)
		expect(t, "many behind", append(bytes.Clone(b), make([]byte, 5000)...), api.ErrForm)
	}
}

func TestReadOfNumbersThatAreNone(t *testing.T) {
	eachNumber(func(list []fieldOf, at int) {
		for _, b := range []string{"\x01\x00", "\x02\x00\x01", "\x03\x00\x01\x01", "\x08\x00\x01\x01\x01\x01\x01\x01\x01",
			"\x09\x01\x01\x01\x01\x01\x01\x01\x01\x01", "\x80\x01", "\xff\x01"} {
			list[at].b = b
			expect(t, list[at].what, joined(list), api.ErrForm)
		}
	})
}

func TestReadOfNumbersOutside(t *testing.T) {
	eachNumber(func(list []fieldOf, at int) {
		most := list[at].most
		for _, above := range []uint64{most + 1, most + 2, most + 256, most + 1<<32, 1<<63 - 1, 1 << 63, 1<<63 + 1, math.MaxUint64} {
			list[at].b = string(numOf(above))
			expect(t, list[at].what, joined(list), api.ErrRange)
			// Nothing is looked at behind it.
			expect(t, list[at].what, joined(list[:at+1]), api.ErrRange)
		}
	})
}

func TestReadOfNumbersAtTheirEdges(t *testing.T) {
	for _, kind := range kinds() {
		for at, f := range fieldsOf(kind) {
			if f.most != highest {
				continue
			}
			for _, n := range inside() {
				list := fieldsOf(kind)
				list[at].b = string(numOf(uint64(n)))
				expect(t, f.what, joined(list), api.OK)
			}
		}
	}
}

func TestReadOfYes(t *testing.T) {
	for _, kind := range []int{2, 4} {
		for n, want := range map[uint64]api.Errno{0: api.OK, 1: api.OK, 2: api.ErrRange, 3: api.ErrRange, 255: api.ErrRange,
			256: api.ErrRange, 257: api.ErrRange, 1<<32 + 1: api.ErrRange, 1 << 63: api.ErrRange} {
			list := fieldsOf(kind)
			list[2].b = string(numOf(n))
			expect(t, list[2].what, joined(list), want)
			if got, _ := letter.Read(joined(list)); got.Yes != (n == 1) {
				t.Errorf("%d is read as %v", n, got.Yes)
			}
		}
	}
}

func TestReadOfHowManyItems(t *testing.T) {
	head := "\x01\x03\x00\x00\x00\x00"
	for n := range 300 {
		want := api.OK
		if n > mostItems {
			want = api.ErrRange
		}
		count := head + string(numOf(uint64(n)))
		expect(t, "items", []byte(count+strings.Repeat("\x01\x05\x01\x02ab", n)), want)
		expect(t, "items of zeros", []byte(count+strings.Repeat("\x00\x00", n)), want)
		if n > 0 && want == api.OK {
			want = api.ErrShort
		}
		expect(t, "items that aren't there", []byte(count), want)
	}
	for n := 1; n <= mostItems; n++ {
		b := []byte(head + string(numOf(uint64(n))) + strings.Repeat("\x00\x00", n))
		expect(t, "one item less", b[:len(b)-2], api.ErrShort)
		expect(t, "one item more", append(b, 0, 0), api.ErrForm)
	}
}

// lengths are those of texts that have at most so many bytes, and beside that.
func lengths(most int) []int {
	return []int{0, 1, 2, 255, 256, 257, most / 2, most - 1, most, most + 1, most + 2, 2 * most, 1 << 20}
}

func TestReadOfItemsBytes(t *testing.T) {
	for ahead := range mostItems {
		head := "\x01\x03\x00\x00\x00\x00" + string(numOf(uint64(ahead)+1)) + strings.Repeat("\x00\x00", ahead) + "\x01\x07"
		for _, n := range lengths(mostItem) {
			want, short := api.OK, api.ErrShort
			if n > mostItem {
				want, short = api.ErrRange, api.ErrRange
			}
			b := append([]byte(head), textOf(row(n))...)
			expect(t, "an item's bytes", b, want)
			if n > 0 {
				expect(t, "an item's bytes, cut short", b[:len(b)-1], short)
				expect(t, "an item's length alone", b[:len(b)-n], short)
			}
		}
	}
}

func TestReadOfStates(t *testing.T) {
	for _, n := range append(lengths(mostState), mostItem+1) {
		want, short := api.OK, api.ErrShort
		if n > mostState {
			want, short = api.ErrRange, api.ErrRange
		}
		b := append([]byte("\x01\x05\x00\x01\x09\x01\x01"), textOf(row(n))...)
		expect(t, "a state", b, want)
		if n > 0 {
			expect(t, "a state, cut short", b[:len(b)-1], short)
			expect(t, "a state's length alone", b[:len(b)-n], short)
		}
	}
}

// Of two faults the one of the field ahead is told.
func TestReadOfTheFirstFault(t *testing.T) {
	eachNumber(func(list []fieldOf, i int) {
		for j := i + 1; j < len(list); j++ {
			if list[j].what == "" {
				continue
			}
			what := list[i].what + " ahead of " + list[j].what
			turned := slices.Clone(list)
			turned[i].b, turned[j].b = string(numOf(list[i].most+1)), "\x01\x00"
			expect(t, what, joined(turned), api.ErrRange)
			turned[i].b, turned[j].b = "\x01\x00", string(numOf(list[j].most+1))
			expect(t, what, joined(turned), api.ErrForm)
			expect(t, what+", cut short", joined(turned[:j]), api.ErrForm)
		}
	})
}

func TestReadOfAllShortBytes(t *testing.T) {
	for a := range 256 {
		checkRead(t, []byte{byte(a)})
		for b := range 256 {
			checkRead(t, []byte{byte(a), byte(b)})
			checkRead(t, append([]byte{byte(a), byte(b)}, make([]byte, 5)...))
		}
	}
	// All rows of these bytes behind each kind: many of them are forms.
	few, read := []byte{0, 1, 2, 5}, 0
	for _, kind := range []byte{0, 1, 2, 3, 4, 5, 6} {
		for n := range 8 {
			for code := range 1 << (2 * n) {
				b := []byte{1, kind}
				for i := range n {
					b = append(b, few[code>>(2*i)&3])
				}
				if checkRead(t, b) == api.OK {
					read++
				}
			}
		}
	}
	if read < 1000 {
		t.Errorf("only %d were read", read)
	}
}

// Each byte of a form is changed, left out, and has another one put ahead of it.
func TestReadOfFormsWithAByteTurned(t *testing.T) {
	for _, form := range forms() {
		for at := range form {
			checkRead(t, slices.Delete(bytes.Clone(form), at, at+1))
			for x := range 256 {
				changed := bytes.Clone(form)
				changed[at] = byte(x)
				checkRead(t, changed)
				checkRead(t, slices.Insert(bytes.Clone(form), at, byte(x)))
			}
		}
	}
}

// What is handed in is neither changed, nor kept, nor read behind its length.
func TestReadSharesNoMemory(t *testing.T) {
	for _, kind := range kinds() {
		want := plain(kind)
		room := append(formOf(want), 1, 2, 3)
		was, n := bytes.Clone(room), len(room)-3
		got, x := letter.Read(room[:n])
		if x != api.OK || !sameBy(got, want) || !bytes.Equal(room, was) {
			t.Errorf("kind %d:%s, %v, % x", kind, told(got), x, room)
		}
		if _, x := letter.Read(room[:n-1]); x != api.ErrShort {
			t.Errorf("kind %d is read behind its length: %v", kind, x)
		}
		for i := range room {
			room[i] = 0xee
		}
		if !sameBy(got, want) {
			t.Errorf("kind %d: what is read is shared", kind)
		}
	}
}

// No two lists of an answer share memory, nor do two answers.
func TestListsThatAreReadShareNoMemory(t *testing.T) {
	want := with(3, func(l *api.Letter) {
		l.Items = slices.Repeat([]api.Item{{Term: 3, B: []byte("abc")}, {}}, 5)
	})
	a, _ := letter.Read(formOf(want))
	b, _ := letter.Read(formOf(want))
	for i, it := range a.Items {
		for j := range it.B[:cap(it.B)] {
			it.B[:cap(it.B)][j] = 0xee
		}
		a.Items[i] = api.Item{Term: 9, B: []byte("other")}
		if rest := slices.Concat(a.Items[:i+1], want.Items[i+1:]); !sameBy(a, api.Letter{Kind: 3, Term: want.Term, At: want.At, AtTerm: want.AtTerm, To: want.To, Items: rest}) {
			t.Errorf("the item at %d shares memory with one behind it", i)
		}
	}
	if !sameBy(b, want) {
		t.Error("two answers share memory")
	}
}

func FuzzReadAndPut(f *testing.F) {
	for _, b := range forms() {
		f.Add(b)
	}
	f.Fuzz(func(t *testing.T, b []byte) { checkRead(t, b) })
}
