// The tests hold the package's exported calls alone against the document's words.
package letter_test

import (
	"bytes"
	"math"
	"math/big"
	"slices"
	"strings"
	"testing"

	"seisin/api"
	"seisin/letter"
)

const (
	// highest is the greatest term, and the greatest index.
	highest = 1 << 40
	// mostItems, mostItem and mostState are how many items, bytes of an item and
	// bytes of a state a letter has at most.
	mostItems = 16
	mostItem  = 8192
	mostState = 65536
)

// uses tells by a letter each what a kind uses, in the order of its form: At,
// its Term (t), To (o), Yes, Items, B.
func uses(kind int) (string, bool) {
	all := []string{"", "At", "Y", "AtoI", "YAo", "AtB"}
	if kind < 1 || kind >= len(all) {
		return "", false
	}
	return all[kind], true
}

// kinds are those that there are.
func kinds() []int { return []int{1, 2, 3, 4, 5} }

// parts are all that a letter may use, by the letters of uses.
const parts = "AtoYIB"

// numOf is a number's form, by numbers of any size.
func numOf(n uint64) []byte {
	b := new(big.Int).SetUint64(n).Bytes()
	return append([]byte{byte(len(b))}, b...)
}

func textOf(b []byte) []byte { return append(numOf(uint64(len(b))), b...) }

// partOf is the form of one part of a letter.
func partOf(l api.Letter, part rune) []byte {
	switch part {
	case 'A':
		return numOf(uint64(l.At))
	case 't':
		return numOf(uint64(l.AtTerm))
	case 'o':
		return numOf(uint64(l.To))
	case 'Y':
		if l.Yes {
			return []byte{1, 1}
		}
		return []byte{0}
	case 'B':
		return textOf(l.B)
	}
	b := numOf(uint64(len(l.Items)))
	for _, it := range l.Items {
		b = append(append(b, numOf(uint64(it.Term))...), textOf(it.B)...)
	}
	return b
}

// formOf is a form by the document's words.
func formOf(l api.Letter) []byte {
	b := append(numOf(uint64(l.Kind)), numOf(uint64(l.Term))...)
	used, _ := uses(l.Kind)
	for _, part := range used {
		b = append(b, partOf(l, part)...)
	}
	return b
}

// zero tells whether one part of a letter has its zero value.
func zero(l api.Letter, part rune) bool {
	switch part {
	case 'A':
		return l.At == 0
	case 't':
		return l.AtTerm == 0
	case 'o':
		return l.To == 0
	case 'Y':
		return !l.Yes
	case 'I':
		return len(l.Items) == 0
	}
	return len(l.B) == 0
}

// rightBy tells what Right has to, by the document's words.
func rightBy(l api.Letter) bool {
	used, ok := uses(l.Kind)
	if !ok {
		return false
	}
	for _, part := range parts {
		if !strings.ContainsRune(used, part) && !zero(l, part) {
			return false
		}
	}
	numbers := []int{l.Term, l.At, l.AtTerm, l.To}
	for _, it := range l.Items {
		numbers = append(numbers, it.Term)
		if len(it.B) >= mostItem+1 {
			return false
		}
	}
	for _, n := range numbers {
		if n <= -1 || n >= highest+1 {
			return false
		}
	}
	return len(l.Items) < mostItems+1 && len(l.B) < mostState+1
}

// sameBy is Same, by the document's words.
func sameBy(a, b api.Letter) bool {
	if a.Kind != b.Kind || a.Term != b.Term || a.At != b.At || a.AtTerm != b.AtTerm || a.To != b.To || a.Yes != b.Yes {
		return false
	}
	if len(a.Items) != len(b.Items) || string(a.B) != string(b.B) {
		return false
	}
	for i := range a.Items {
		if a.Items[i].Term != b.Items[i].Term || string(a.Items[i].B) != string(b.Items[i].B) {
			return false
		}
	}
	return true
}

// told writes a letter so that a failure can be read.
func told(l api.Letter) string { return string(appendTold(nil, l)) }

func appendTold(b []byte, l api.Letter) []byte {
	for _, n := range []int{l.Kind, l.Term, l.At, l.AtTerm, l.To, len(l.Items), len(l.B)} {
		b = append(append(b, ' '), big.NewInt(int64(n)).String()...)
	}
	if l.Yes {
		b = append(b, " Yes"...)
	}
	return b
}

// check holds all calls on one letter against the document's words; it answers
// whether the letter is right.
func check(t *testing.T, what string, l api.Letter) bool {
	t.Helper()
	ok, form := rightBy(l), []byte(nil)
	if ok {
		form = formOf(l)
	}
	if got := letter.Right(l); got != ok {
		t.Fatalf("%s:%s is right: %v", what, told(l), got)
	}
	if got, gotOk := letter.Put(l); gotOk != ok || !bytes.Equal(got, form) {
		t.Fatalf("%s:%s is put as %.99x, %v, not %.99x, %v", what, told(l), got, gotOk, form, ok)
	}
	if !letter.Same(l, l) {
		t.Fatalf("%s:%s isn't the same as itself", what, told(l))
	}
	if !ok {
		return false
	}
	if got, x := letter.Read(form); x != api.OK || !sameBy(got, l) || !letter.Same(got, l) {
		t.Fatalf("%s:%s is read as%s, %v", what, told(l), told(got), x)
	}
	return true
}

// expectRight is check, with what is known.
func expectRight(t *testing.T, what string, l api.Letter, want bool) {
	t.Helper()
	if got := check(t, what, l); got != want {
		t.Errorf("%s:%s: right: %v", what, told(l), got)
	}
}

// row answers n bytes, of which those that stand near one another are unlike.
func row(n int) []byte {
	b := make([]byte, n)
	for i := range b {
		b[i] = byte(i + i/256 + 7)
	}
	return b
}

// items are so many, of unlike terms and lengths.
func items(n int) []api.Item {
	var l []api.Item
	for i := range n {
		l = append(l, api.Item{Term: 200 + 30*i, B: row(i * i)})
	}
	return l
}

// set puts a number of a kind's own there: that of the part which is told.
func set(l *api.Letter, part rune, n int) {
	switch part {
	case 'A':
		l.At = n
	case 't':
		l.AtTerm = n
	case 'o':
		l.To = n
	}
}

// plain is a right letter of a kind, of no edge.
func plain(kind int) api.Letter {
	l := api.Letter{Kind: kind, Term: 70000}
	used, _ := uses(kind)
	for _, part := range used {
		switch part {
		case 'A':
			l.At = 300
		case 't':
			l.AtTerm = 69999
		case 'o':
			l.To = 290
		case 'Y':
			l.Yes = true
		case 'I':
			l.Items = items(3)
		case 'B':
			l.B = []byte("state")
		}
	}
	return l
}

// with answers the plain letter of a kind, to which something was done.
func with(kind int, turn func(l *api.Letter)) api.Letter {
	l := plain(kind)
	turn(&l)
	return l
}

// outside are whole numbers that are in no field's bounds, among them such as
// would be within if they lost their sign, or their high bits.
func outside() []int {
	return []int{-1, -2, -255, -256, -1 << 32, -1<<32 + 1, -highest, math.MinInt, math.MinInt + 1,
		highest + 1, highest + 2, highest * 2, highest*256 + 1, 1<<62 + 1, math.MaxInt - 1, math.MaxInt}
}

// inside are whole numbers that are within every bound, at its edges and at
// those of how many bytes their forms have.
func inside() []int {
	return []int{0, 1, 2, 5, 127, 128, 255, 256, 257, 65535, 65536, 1<<32 - 1, 1 << 32, highest/2 + 1, highest - 1, highest}
}

// P15.1: Right, Put

func TestOrdinaryLetters(t *testing.T) {
	for _, kind := range kinds() {
		expectRight(t, "plain", plain(kind), true)
		expectRight(t, "nothing but its kind", api.Letter{Kind: kind}, true)
		expectRight(t, "nothing but kind and term", api.Letter{Kind: kind, Term: 7}, true)
	}
	expectRight(t, "the zero letter", api.Letter{}, false)
	if api.LAsk != 1 || api.LSay != 2 || api.LSend != 3 || api.LGot != 4 || api.LGive != 5 {
		t.Error("other kinds")
	}
}

func TestKindsThatThereArent(t *testing.T) {
	for _, kind := range append(outside(), 0, 6, 7, 8, 255, 256, 257, 259, 261, 1<<32+1, 1<<32+5) {
		expectRight(t, "a kind alone", api.Letter{Kind: kind}, false)
		expectRight(t, "a kind and a term", api.Letter{Kind: kind, Term: 7}, false)
		for _, as := range kinds() {
			expectRight(t, "another kind", with(as, func(l *api.Letter) { l.Kind = kind }), false)
		}
	}
}

func TestTermsOfEachKind(t *testing.T) {
	for _, kind := range kinds() {
		for _, n := range inside() {
			expectRight(t, "a term", with(kind, func(l *api.Letter) { l.Term = n }), true)
		}
		for _, n := range outside() {
			expectRight(t, "a term", with(kind, func(l *api.Letter) { l.Term = n }), false)
		}
	}
}

// Of each kind each number is within its bounds if it is used, and 0 if it isn't.
func TestNumbersOfEachKind(t *testing.T) {
	for _, kind := range kinds() {
		used, _ := uses(kind)
		for _, part := range "Ato" {
			what := "the part " + string(part)
			for _, n := range inside() {
				expectRight(t, what, with(kind, func(l *api.Letter) { set(l, part, n) }), n == 0 || strings.ContainsRune(used, part))
			}
			for _, n := range outside() {
				expectRight(t, what, with(kind, func(l *api.Letter) { set(l, part, n) }), false)
			}
		}
	}
}

func TestYesOfEachKind(t *testing.T) {
	for kind, want := range map[int]bool{1: false, 2: true, 3: false, 4: true, 5: false} {
		expectRight(t, "Yes", with(kind, func(l *api.Letter) { l.Yes = true }), want)
		expectRight(t, "not Yes", with(kind, func(l *api.Letter) { l.Yes = false }), true)
	}
}

// A list without elements is one that isn't there, be it nil or not.
func TestListsOfEachKind(t *testing.T) {
	for _, kind := range kinds() {
		expectRight(t, "one item", with(kind, func(l *api.Letter) { l.Items = items(1) }), kind == 3)
		expectRight(t, "an item of zeros", with(kind, func(l *api.Letter) { l.Items = make([]api.Item, 1) }), kind == 3)
		expectRight(t, "no item", with(kind, func(l *api.Letter) { l.Items = []api.Item{} }), true)
		expectRight(t, "nil items", with(kind, func(l *api.Letter) { l.Items = nil }), true)
		expectRight(t, "items behind the length", with(kind, func(l *api.Letter) { l.Items = items(3)[:0] }), true)
		expectRight(t, "a byte", with(kind, func(l *api.Letter) { l.B = []byte{0} }), kind == 5)
		expectRight(t, "no byte", with(kind, func(l *api.Letter) { l.B = []byte{} }), true)
		expectRight(t, "nil bytes", with(kind, func(l *api.Letter) { l.B = nil }), true)
		expectRight(t, "bytes behind the length", with(kind, func(l *api.Letter) { l.B = []byte("abc")[:0] }), true)
	}
}

// What one kind uses isn't right in another one, unless that uses it, too.
func TestAKindWithAnothersParts(t *testing.T) {
	for _, as := range kinds() {
		for _, kind := range kinds() {
			got := check(t, "another's parts", with(as, func(l *api.Letter) { l.Kind = kind }))
			if want := kind == as || as == 2 && kind == 4 || as == 1 && (kind == 3 || kind == 5); got != want {
				t.Errorf("kind %d with the parts of %d: %v", kind, as, got)
			}
		}
	}
}

func TestHowManyItems(t *testing.T) {
	for n := range 40 {
		expectRight(t, "items", with(3, func(l *api.Letter) { l.Items = items(n) }), n <= mostItems)
		expectRight(t, "items of zeros", with(3, func(l *api.Letter) { l.Items = make([]api.Item, n) }), n <= mostItems)
	}
	for _, n := range []int{255, 256, 257, 272, 65536, 100000} {
		expectRight(t, "items of zeros", with(3, func(l *api.Letter) { l.Items = make([]api.Item, n) }), false)
	}
}

func TestItemsAtTheirEdges(t *testing.T) {
	for at := range mostItems {
		turned := func(it api.Item) api.Letter {
			return with(3, func(l *api.Letter) {
				l.Items = items(mostItems)
				l.Items[at] = it
			})
		}
		for _, n := range inside() {
			expectRight(t, "an item's term", turned(api.Item{Term: n, B: []byte("x")}), true)
		}
		for _, n := range outside() {
			expectRight(t, "an item's term", turned(api.Item{Term: n, B: []byte("x")}), false)
			expectRight(t, "an item's term, without bytes", turned(api.Item{Term: n}), false)
		}
		for _, n := range []int{0, 1, 2, 255, 256, 257, mostItem - 1, mostItem, mostItem + 1, mostItem + 2, 2 * mostItem, mostState, mostState + 1} {
			expectRight(t, "an item's bytes", turned(api.Item{Term: 1, B: row(n)}), n <= mostItem)
		}
		expectRight(t, "an item of zeros", turned(api.Item{}), true)
	}
	full := with(3, func(l *api.Letter) {
		l.Items = slices.Repeat([]api.Item{{Term: highest, B: row(mostItem)}}, mostItems)
	})
	expectRight(t, "all that there may be", full, true)
}

func TestStatesAtTheirEdges(t *testing.T) {
	for _, n := range []int{0, 1, 2, 254, 255, 256, 257, mostItem, mostItem + 1, mostState / 2, mostState - 1, mostState, mostState + 1, mostState + 2, 2 * mostState, 1 << 24} {
		expectRight(t, "a state", with(5, func(l *api.Letter) { l.B = row(n) }), n <= mostState)
		expectRight(t, "a state alone", api.Letter{Kind: 5, B: row(n)}, n <= mostState)
	}
}

// edges calls do with letters of all kinds, and all that is at an edge together.
func edges(do func(l api.Letter)) {
	numbers := []int{-1, 0, 1, highest, highest + 1}
	lists := [][]api.Item{nil, {{}}, {{Term: highest, B: []byte{0}}}, {{Term: 1}, {Term: highest + 1}}, {{Term: -1}}, make([]api.Item, mostItems), make([]api.Item, mostItems+1)}
	states := [][]byte{nil, {0}, make([]byte, mostState), make([]byte, mostState+1)}
	for _, kind := range []int{-1, 0, 1, 2, 3, 4, 5, 6} {
		for i := range 5 * 5 * 5 * 5 {
			term, at, atTerm, to := numbers[i%5], numbers[i/5%5], numbers[i/25%5], numbers[i/125]
			for _, list := range lists {
				for _, state := range states {
					do(api.Letter{Kind: kind, Term: term, At: at, AtTerm: atTerm, To: to, Items: list, B: state})
					do(api.Letter{Kind: kind, Term: term, At: at, AtTerm: atTerm, To: to, Yes: true, Items: list, B: state})
				}
			}
		}
	}
}

func TestAllEdgesTogether(t *testing.T) {
	right := map[int]int{}
	edges(func(l api.Letter) {
		if check(t, "edges", l) {
			right[l.Kind]++
		}
	})
	// Of each number three are right, of the items four, of the states three.
	for kind, want := range map[int]int{1: 27, 2: 6, 3: 324, 4: 54, 5: 81} {
		if right[kind] != want {
			t.Errorf("%d of kind %d are right, not %d", right[kind], kind, want)
		}
	}
}

func TestPutByHand(t *testing.T) {
	for _, c := range []struct {
		l    api.Letter
		want string
	}{
		// The document's example.
		{api.Letter{Kind: 2, Term: 1, Yes: true}, "\x01\x02\x01\x01\x01\x01"},
		{api.Letter{Kind: 2}, "\x01\x02\x00\x00"},
		{api.Letter{Kind: 1}, "\x01\x01\x00\x00\x00"},
		{api.Letter{Kind: 1, Term: 9, At: 300, AtTerm: 8}, "\x01\x01\x01\x09\x02\x01\x2c\x01\x08"},
		{api.Letter{Kind: 1, Term: highest, At: highest, AtTerm: highest - 1},
			"\x01\x01\x06\x01\x00\x00\x00\x00\x00\x06\x01\x00\x00\x00\x00\x00\x05\xff\xff\xff\xff\xff"},
		{api.Letter{Kind: 3}, "\x01\x03\x00\x00\x00\x00\x00"},
		{api.Letter{Kind: 3, Term: 4, At: 5, AtTerm: 3, To: 2, Items: []api.Item{{Term: 4, B: []byte("ab")}, {}, {B: []byte{0}}}},
			"\x01\x03\x01\x04\x01\x05\x01\x03\x01\x02\x01\x03" + "\x01\x04\x01\x02ab" + "\x00\x00" + "\x00\x01\x01\x00"},
		{api.Letter{Kind: 3, Items: make([]api.Item, 16)}, "\x01\x03\x00\x00\x00\x00\x01\x10" + strings.Repeat("\x00\x00", 16)},
		{api.Letter{Kind: 4}, "\x01\x04\x00\x00\x00\x00"},
		{api.Letter{Kind: 4, Term: 256, Yes: true, At: 7, To: 6}, "\x01\x04\x02\x01\x00\x01\x01\x01\x07\x01\x06"},
		{api.Letter{Kind: 4, Term: 1, To: 6}, "\x01\x04\x01\x01\x00\x00\x01\x06"},
		{api.Letter{Kind: 5}, "\x01\x05\x00\x00\x00\x00"},
		{api.Letter{Kind: 5, Term: 2, At: 9, AtTerm: 1, B: []byte("\x00\xff")}, "\x01\x05\x01\x02\x01\x09\x01\x01\x01\x02\x00\xff"},
		{api.Letter{Kind: 5, B: make([]byte, 65536)}, "\x01\x05\x00\x00\x00\x03\x01\x00\x00" + strings.Repeat("\x00", 65536)},
	} {
		if got, ok := letter.Put(c.l); !ok || string(got) != c.want {
			t.Errorf("%s is put as %.99x, %v, not %.99x", told(c.l), got, ok, c.want)
		}
		if got, x := letter.Read([]byte(c.want)); x != api.OK || !sameBy(got, c.l) {
			t.Errorf("%.99x is read as%s, %v", c.want, told(got), x)
		}
	}
}

// What is answered is new, and what is handed in isn't changed, nor read behind
// its length.
func TestPutSharesNoMemory(t *testing.T) {
	whole, state := append(items(3), api.Item{Term: -1}), []byte("state and more")
	for i := range whole {
		whole[i].B = append([]byte("some bytes"), 1, 2, 3)[:10]
	}
	send := with(3, func(l *api.Letter) { l.Items = whole[:3] })
	give := with(5, func(l *api.Letter) { l.B = state[:5] })
	for _, l := range []api.Letter{send, give} {
		expectRight(t, "lists with room", l, true)
		want := formOf(l)
		a, _ := letter.Put(l)
		b, _ := letter.Put(l)
		for i := range a[:cap(a)] {
			a[:cap(a)][i] = 0xee
		}
		if c, _ := letter.Put(l); !bytes.Equal(b, want) || !bytes.Equal(c, want) || !bytes.Equal(formOf(l), want) {
			t.Errorf("kind %d: the form is shared", l.Kind)
		}
	}
	if whole[3].Term != -1 || string(state) != "state and more" {
		t.Error("what was handed in has changed")
	}
}

// P15.3

// many are right letters of all kinds, of which no two are the same.
func many() []api.Letter {
	var l []api.Letter
	for n := range 2000 {
		x := api.Letter{Kind: 1 + n%5, Term: highest / (1 + n*n)}
		used, _ := uses(x.Kind)
		for i, part := range used {
			switch part {
			case 'Y':
				x.Yes = n%2 == 0
			case 'I':
				x.Items = items(n % (mostItems + 1))
				for j := range x.Items {
					x.Items[j].Term = n * j
					x.Items[j].B = row(n * j % 300)
				}
			case 'B':
				x.B = row(n * 31 % 3000)
			default:
				set(&x, part, (n*n*n+i)%(highest+1))
			}
		}
		l = append(l, x)
	}
	return l
}

func TestWhatIsPutIsReadAsItWas(t *testing.T) {
	for _, l := range many() {
		expectRight(t, "one of many", l, true)
	}
}

func TestOneFormIsOfOneLetter(t *testing.T) {
	seen := map[string]api.Letter{}
	meet := func(l api.Letter) {
		form, ok := letter.Put(l)
		if !ok {
			return
		}
		if other, met := seen[string(form)]; met && !sameBy(l, other) {
			t.Fatalf("%s and%s have one form", told(l), told(other))
		}
		seen[string(form)] = l
	}
	for _, l := range append(many(), unlike()...) {
		meet(l)
	}
	for _, kind := range kinds() {
		for i := range 5 * 5 * 5 * 5 {
			n := []int{0, 1, 2, 255, 256}
			meet(api.Letter{Kind: kind, Term: n[i%5], At: n[i/5%5], AtTerm: n[i/25%5], To: n[i/125]})
			meet(api.Letter{Kind: kind, Term: n[i%5], At: n[i/5%5], To: n[i/125], Yes: true})
		}
	}
	if len(seen) < 3000 {
		t.Errorf("%d forms", len(seen))
	}
}

func TestTheSameCallHasTheSameAnswer(t *testing.T) {
	bad := with(3, func(l *api.Letter) { l.Items[1].Term = -1 })
	for range 3 {
		for _, kind := range kinds() {
			expectRight(t, "plain", plain(kind), true)
		}
		expectRight(t, "bad", bad, false)
	}
}
