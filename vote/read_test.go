package vote_test

import (
	"bytes"
	"math"
	"math/big"
	"testing"

	"seisin/api"
	"seisin/vote"
)

// numOf is a number's form, by numbers of any size.
func numOf(n uint64) []byte {
	b := new(big.Int).SetUint64(n).Bytes()
	return append([]byte{byte(len(b))}, b...)
}

// formOf is a form by the document's words.
func formOf(b api.Ballot) []byte {
	return append(numOf(uint64(b.Term)), numOf(uint64(b.For+1))...)
}

// rightBy tells what Right has to, by the document's words.
func rightBy(b api.Ballot) bool {
	if b.Term <= -1 || b.Term >= highest+1 {
		return false
	}
	for _, who := range []int{-1, 0, 1, 2, 3, 4, 5, 6} {
		if b.For == who {
			return true
		}
	}
	return false
}

// check holds all calls on one ballot by itself against the document's words;
// it answers whether it is right.
func check(t *testing.T, what string, b api.Ballot) bool {
	t.Helper()
	ok, form := rightBy(b), []byte(nil)
	if ok {
		form = formOf(b)
	}
	if got := vote.Right(b); got != ok {
		t.Fatalf("%s: %v is right: %v", what, b, got)
	}
	if got, gotOk := vote.Put(b); gotOk != ok || !bytes.Equal(got, form) {
		t.Fatalf("%s: %v is put as % x, %v, not % x, %v", what, b, got, gotOk, form, ok)
	}
	if !ok {
		return false
	}
	if got, x := vote.Read(form); x != api.OK || got != b {
		t.Fatalf("%s: %v is read as %v, %v", what, b, got, x)
	}
	return true
}

// reader reads fields by the document's words, and keeps the first error.
type reader struct {
	rest []byte
	e    api.Errno
}

// cut takes n bytes off, or tells that they aren't there.
func (r *reader) cut(n int) []byte {
	if r.e == api.OK && n > len(r.rest) {
		r.e = api.ErrShort
	}
	if r.e != api.OK {
		return nil
	}
	b := r.rest[:n]
	r.rest = r.rest[n:]
	return b
}

func (r *reader) num(most uint64) int {
	head := r.cut(1)
	if r.e == api.OK && head[0] > 8 {
		r.e = api.ErrForm
	}
	if r.e != api.OK {
		return 0
	}
	b := r.cut(int(head[0]))
	n := new(big.Int).SetBytes(b)
	switch {
	case r.e != api.OK:
	case len(b) > 0 && b[0] == 0:
		r.e = api.ErrForm
	case n.Cmp(new(big.Int).SetUint64(most)) > 0:
		r.e = api.ErrRange
	}
	if r.e != api.OK {
		return 0
	}
	return int(n.Int64())
}

// readBy reads a ballot by the document's words.
func readBy(b []byte) (api.Ballot, api.Errno) {
	r := &reader{rest: b}
	term := r.num(highest)
	who := r.num(7)
	switch {
	case r.e != api.OK:
		return api.Ballot{}, r.e
	case len(r.rest) > 0:
		return api.Ballot{}, api.ErrForm
	}
	return api.Ballot{Term: term, For: who - 1}, api.OK
}

// checkRead holds a reading against readBy; it answers the error.
func checkRead(t *testing.T, b []byte) api.Errno {
	t.Helper()
	want, x := readBy(b)
	got, gotX := vote.Read(b)
	if got != want || gotX != x {
		t.Fatalf("% x is read as %v, %v, not %v, %v", b, got, gotX, want, x)
	}
	if x != api.OK {
		return x
	}
	if !vote.Right(got) {
		t.Fatalf("% x is read as %v, which isn't right", b, got)
	}
	if back, ok := vote.Put(got); !ok || !bytes.Equal(back, b) {
		t.Fatalf("% x is put as % x, %v", b, back, ok)
	}
	return api.OK
}

// expect is checkRead, with the error that is known.
func expect(t *testing.T, what string, b []byte, want api.Errno) {
	t.Helper()
	if got := checkRead(t, b); got != want {
		t.Errorf("%s: % x: %v, not %v", what, b, got, want)
	}
}

// forms are forms of right ballots of many sizes.
func forms() [][]byte {
	var list [][]byte
	for _, term := range []int{0, 1, 255, 256, 70000, highest - 1, highest} {
		for _, who := range []int{api.Nobody, 0, 3, 6} {
			list = append(list, formOf(api.Ballot{Term: term, For: who}))
		}
	}
	return list
}

// P16.3

func TestBallotsAtTheirEdges(t *testing.T) {
	for _, term := range []int{-2, -1, 0, 1, 255, 256, 65535, 65536, 1<<32 - 1, 1 << 32, highest - 1, highest, highest + 1, highest + 2} {
		for who := -5; who < 300; who++ {
			want := term >= 0 && term <= highest && who >= -1 && who <= 6
			if got := check(t, "edges", api.Ballot{Term: term, For: who}); got != want {
				t.Errorf("term %d, for %d: %v", term, who, got)
			}
		}
	}
	if api.MaxTerm != highest || api.Nobody != -1 {
		t.Error("other limits")
	}
}

func TestBallotsOfAnyNumbers(t *testing.T) {
	for _, term := range wide() {
		for _, who := range wide() {
			check(t, "wide", api.Ballot{Term: term, For: who})
		}
	}
	for n := -300; n < 70000; n++ {
		check(t, "a term", api.Ballot{Term: n, For: n % 7})
		check(t, "a term near the greatest", api.Ballot{Term: highest + n, For: api.Nobody})
		check(t, "for whom", api.Ballot{Term: 70000, For: n})
	}
}

func TestPutByHand(t *testing.T) {
	for _, c := range []struct {
		b    api.Ballot
		want string
	}{
		{api.Ballot{Term: 2, For: 6}, "\x01\x02\x01\x07"},
		{api.Ballot{Term: 2, For: api.Nobody}, "\x01\x02\x00"},
		{api.Ballot{}, "\x00\x01\x01"},
		{api.Ballot{For: api.Nobody}, "\x00\x00"},
		{api.Ballot{Term: 70000, For: 3}, "\x03\x01\x11\x70\x01\x04"},
		{api.Ballot{Term: highest, For: 5}, "\x06\x01\x00\x00\x00\x00\x00\x01\x06"},
		{api.Ballot{Term: highest - 1, For: 1}, "\x05\xff\xff\xff\xff\xff\x01\x02"},
	} {
		if got, ok := vote.Put(c.b); !ok || string(got) != c.want {
			t.Errorf("%v is put as % x, %v, not % x", c.b, got, ok, c.want)
		}
		if got, x := vote.Read([]byte(c.want)); x != api.OK || got != c.b {
			t.Errorf("% x is read as %v, %v, not %v", c.want, got, x, c.b)
		}
	}
}

func TestPutOfBallotsThatAreNone(t *testing.T) {
	for _, b := range []api.Ballot{{Term: -1}, {Term: highest + 1}, {For: -2}, {For: 7}, {Term: -1, For: -2}, {Term: highest + 1, For: 7},
		{Term: math.MinInt, For: math.MinInt}, {Term: math.MaxInt, For: math.MaxInt}, {For: math.MaxInt}, {For: math.MinInt}} {
		if got, ok := vote.Put(b); ok || len(got) > 0 || vote.Right(b) {
			t.Errorf("%v is put as % x, %v", b, got, ok)
		}
	}
}

// Two ballots have one form just if they are the same.
func TestEachBallotHasAFormOfItsOwn(t *testing.T) {
	seen := map[string]api.Ballot{}
	for _, term := range wide() {
		for who := -3; who < 10; who++ {
			b := api.Ballot{Term: term, For: who}
			form, ok := vote.Put(b)
			if other, met := seen[string(form)]; ok && met {
				t.Errorf("%v and %v have one form", b, other)
			}
			if ok {
				seen[string(form)] = b
			}
		}
	}
	if len(seen) < 100 {
		t.Errorf("only %d forms", len(seen))
	}
}

func TestReadOfForms(t *testing.T) {
	for _, b := range forms() {
		expect(t, "a form", b, api.OK)
	}
}

func TestReadOfWhatIsCut(t *testing.T) {
	for _, b := range forms() {
		for end := range b {
			expect(t, "a form cut short", b[:end], api.ErrShort)
		}
	}
	expect(t, "nil", nil, api.ErrShort)
	expect(t, "no bytes", []byte{}, api.ErrShort)
}

func TestReadOfBytesBehind(t *testing.T) {
	for _, b := range forms() {
		for x := range 256 {
			expect(t, "a byte behind", append(bytes.Clone(b), byte(x)), api.ErrForm)
		}
		expect(t, "two behind one another", append(bytes.Clone(b), b...), api.ErrForm)
		expect(t, "many behind", append(bytes.Clone(b), make([]byte, 5000)...), api.ErrForm)
	}
}

// none are fields of numbers that aren't such.
func none() []string {
	return []string{"\x01\x00", "\x02\x00\x01", "\x03\x00\x01\x01", "\x08\x00\x01\x01\x01\x01\x01\x01\x01",
		"\x09\x01\x01\x01\x01\x01\x01\x01\x01\x01", "\x80\x01", "\xff\x01"}
}

func TestReadOfNumbersThatAreNone(t *testing.T) {
	for _, b := range none() {
		expect(t, "a term", []byte(b+"\x01\x03"), api.ErrForm)
		expect(t, "a term alone", []byte(b), api.ErrForm)
		expect(t, "for whom", []byte("\x01\x02"+b), api.ErrForm)
		for _, other := range none() {
			expect(t, "both", []byte(b+other), api.ErrForm)
		}
	}
}

func TestReadOfNumbersOutside(t *testing.T) {
	for _, most := range []uint64{7, highest} {
		for _, above := range []uint64{most + 1, most + 2, most + 256, most + 1<<32, 1<<63 - 1, 1 << 63, 1<<63 + 1, math.MaxUint64} {
			if most == highest {
				expect(t, "a term", append(numOf(above), 1, 3), api.ErrRange)
				// Nothing is looked at behind it.
				expect(t, "a term alone", numOf(above), api.ErrRange)
				expect(t, "a term, and no number", append(numOf(above), 9), api.ErrRange)
			}
			expect(t, "for whom", append([]byte{1, 2}, numOf(above)...), api.ErrRange)
			expect(t, "for whom, and bytes behind", append(append([]byte{1, 2}, numOf(above)...), 0), api.ErrRange)
		}
	}
	for who := 8; who < 600; who++ {
		expect(t, "for whom", append([]byte{1, 2}, numOf(uint64(who))...), api.ErrRange)
	}
}

// Of two faults the one of the field ahead is told.
func TestReadOfTheFirstFault(t *testing.T) {
	outside := string(numOf(highest + 1))
	for _, b := range none() {
		expect(t, "outside, then none", []byte(outside+b), api.ErrRange)
		expect(t, "none, then outside", []byte(b+"\x01\x08"), api.ErrForm)
		expect(t, "none, then cut short", []byte(b+"\x01"), api.ErrForm)
		expect(t, "none, and bytes behind", []byte("\x01\x02"+b+"\x00"), api.ErrForm)
	}
	expect(t, "outside, then cut short", []byte(outside+"\x02\x01"), api.ErrRange)
	expect(t, "outside, then outside", []byte(outside+"\x01\x08"), api.ErrRange)
}

func TestReadOfAllShortBytes(t *testing.T) {
	for a := range 256 {
		checkRead(t, []byte{byte(a)})
		for b := range 256 {
			checkRead(t, []byte{byte(a), byte(b)})
			checkRead(t, append([]byte{byte(a), byte(b)}, 1, 1, 1, 1, 1, 1, 1, 1, 1))
			for _, c := range []int{0, 1, 2, 7, 8, 9, 255} {
				checkRead(t, []byte{byte(a), byte(b), byte(c)})
				checkRead(t, []byte{1, byte(a), byte(c), byte(b)})
			}
		}
	}
}

// Each byte of a form is changed, left out, and has another one put ahead of it.
func TestReadOfFormsWithAByteTurned(t *testing.T) {
	for _, form := range forms() {
		for at := range form {
			checkRead(t, append(bytes.Clone(form[:at]), form[at+1:]...))
			for x := range 256 {
				changed := bytes.Clone(form)
				changed[at] = byte(x)
				checkRead(t, changed)
				more := append(bytes.Clone(form[:at]), byte(x))
				checkRead(t, append(more, form[at:]...))
			}
		}
	}
}

// What is handed in is neither changed, nor read behind its length.
func TestReadLeavesItsBytes(t *testing.T) {
	want := api.Ballot{Term: 70000, For: 3}
	whole := append(formOf(want), 1, 2, 3)
	was, n := bytes.Clone(whole), len(whole)-3
	if got, x := vote.Read(whole[:n]); x != api.OK || got != want || !bytes.Equal(whole, was) {
		t.Errorf("%v, %v, % x", got, x, whole)
	}
	if _, x := vote.Read(whole[:n-1]); x != api.ErrShort {
		t.Errorf("read behind its length: %v", x)
	}
}

// What is answered may be written over, and nothing else changes by it.
func TestPutSharesNoMemory(t *testing.T) {
	ballot := api.Ballot{Term: 70000, For: 3}
	want := formOf(ballot)
	a, _ := vote.Put(ballot)
	b, _ := vote.Put(ballot)
	for i := range a {
		a[i] = 0xee
	}
	_ = append(a, 0xee)
	if c, _ := vote.Put(ballot); !bytes.Equal(b, want) || !bytes.Equal(c, want) {
		t.Errorf("% x and % x, not % x", b, c, want)
	}
}

func FuzzReadAndPut(f *testing.F) {
	for _, b := range forms() {
		f.Add(b)
	}
	f.Fuzz(func(t *testing.T, b []byte) { checkRead(t, b) })
}
