package tx

import (
	"bytes"
	"crypto/sha256"
	"math"
	"math/big"
	"slices"
	"testing"

	"seisin/api"
)

const (
	top  = uint64(1) << 62
	most = uint64(math.MaxUint64)
	// epochs is the greatest expiry.
	epochs = 1 << 40
)

// chain answers numbers without order, always the same ones.
func chain(seed uint64) func() uint64 {
	step := seed*2654435761 + 1
	return func() uint64 {
		step = step*6364136223846793005 + 1442695040888963407
		return step >> 11
	}
}

// row answers n bytes without order, always the same ones.
func row(n int) []byte {
	next, l := chain(uint64(n)), make([]byte, n)
	for i := range l {
		l[i] = byte(next() >> 20)
	}
	return l
}

func digest(n int) api.Id { return sha256.Sum256([]byte{byte(n >> 8), byte(n)}) }

// some answers a right transaction with so many inputs and outputs, without a fee.
func some(ins, outs int) api.Tx {
	t := api.Tx{Expiry: 300}
	for i := range ins {
		p := api.Point{Tx: digest(i / 3), Index: i % 3}
		t.Ins = append(t.Ins, api.In{P: p, Amount: uint64(outs * 1000), Secret: row(i)})
	}
	for i := range outs {
		t.Outs = append(t.Outs, api.Out{Owner: digest(100 + i), Amount: uint64(ins * 1000)})
	}
	return t
}

// of answers a transaction with inputs and outputs of these amounts.
func of(ins, outs []uint64, fee uint64) api.Tx {
	t := api.Tx{Fee: fee}
	for i, a := range ins {
		t.Ins = append(t.Ins, api.In{P: api.Point{Tx: digest(i)}, Amount: a})
	}
	for _, a := range outs {
		t.Outs = append(t.Outs, api.Out{Amount: a})
	}
	return t
}

// clone answers the same transaction in other memory.
func clone(t api.Tx) api.Tx {
	t.Ins, t.Outs = slices.Clone(t.Ins), slices.Clone(t.Outs)
	for i := range t.Ins {
		t.Ins[i].Secret = bytes.Clone(t.Ins[i].Secret)
	}
	return t
}

// with answers a transaction to which something was done.
func with(t api.Tx, turn func(t *api.Tx)) api.Tx {
	t = clone(t)
	turn(&t)
	return t
}

// same tells whether two transactions have the same parts, by another way than Same.
func same(a, b api.Tx) bool {
	return bytes.Equal(formOf(a), formOf(b))
}

func empty(t api.Tx) bool { return t.Ins == nil && t.Outs == nil && t.Fee == 0 && t.Expiry == 0 }

// numOf is a number's form, by numbers of any size.
func numOf(n uint64) []byte {
	b := new(big.Int).SetUint64(n).Bytes()
	return append([]byte{byte(len(b))}, b...)
}

// formOf is a form by the document's words, also of a transaction that isn't right.
func formOf(t api.Tx) []byte {
	b := numOf(uint64(len(t.Ins)))
	for _, in := range t.Ins {
		b = append(b, in.P.Tx[:]...)
		b = append(b, numOf(uint64(in.P.Index))...)
		b = append(b, numOf(in.Amount)...)
		b = append(b, numOf(uint64(len(in.Secret)))...)
		b = append(b, in.Secret...)
	}
	b = append(b, numOf(uint64(len(t.Outs)))...)
	for _, out := range t.Outs {
		b = append(b, out.Owner[:]...)
		b = append(b, numOf(out.Amount)...)
	}
	b = append(b, numOf(t.Fee)...)
	return append(b, numOf(uint64(t.Expiry))...)
}

// digestUnder is the digest of a mark and of bytes, by the library's own.
func digestUnder(mark byte, b []byte) api.Id {
	n := len(b)
	return sha256.Sum256(append([]byte{mark, byte(n >> 24), byte(n >> 16), byte(n >> 8), byte(n)}, b...))
}

// total is a sum that never goes round; false, if it is above the bound.
func total(l ...uint64) (*big.Int, bool) {
	sum := new(big.Int)
	for _, a := range l {
		sum.Add(sum, new(big.Int).SetUint64(a))
	}
	return sum, sum.Cmp(new(big.Int).SetUint64(top)) <= 0
}

// tooLong tells what ErrLong tells.
func tooLong(t api.Tx) bool {
	long := len(t.Ins) == 0 || len(t.Ins) >= 17 || len(t.Outs) == 0 || len(t.Outs) >= 17
	for _, in := range t.Ins {
		long = long || len(in.Secret) >= 65 || in.P.Index <= -1 || in.P.Index >= 16
	}
	return long || t.Expiry <= -1 || t.Expiry >= epochs+1
}

// wrong answers what Check has to, by the document's words.
func wrong(t api.Tx) api.Errno {
	if tooLong(t) {
		return api.ErrLong
	}
	points, spent, paid := map[api.Point]int{}, []uint64{}, []uint64{}
	for _, in := range t.Ins {
		points[in.P]++
		spent = append(spent, in.Amount)
	}
	for _, out := range t.Outs {
		paid = append(paid, out.Amount)
	}
	in, okIn := total(spent...)
	out, okOut := total(append(slices.Clone(paid), t.Fee)...)
	switch {
	case len(points) != len(t.Ins):
		return api.ErrTwice
	case slices.Min(spent) == 0 || slices.Min(paid) == 0:
		return api.ErrZero
	case !okIn || !okOut:
		return api.ErrSum
	case in.Cmp(out) != 0:
		return api.ErrLess
	}
	return api.OK
}

// check holds all calls on one transaction against the document's words.
func check(t *testing.T, what string, x api.Tx) {
	t.Helper()
	e := wrong(x)
	if got := Check(x); got != e {
		t.Fatalf("%s: %v, not %v", what, got, e)
	}
	b, id := []byte(nil), api.Id{}
	if e == api.OK {
		b = formOf(x)
		id = digestUnder(8, b)
	}
	if got, gotE := Put(x); !bytes.Equal(got, b) || gotE != e {
		t.Fatalf("%s is put as % x, %v, not % x, %v", what, got, gotE, b, e)
	}
	if got := Id(x); got != id {
		t.Fatalf("%s has the digest %x, not %x", what, got, id)
	}
	if got := Size(x); got != len(b) {
		t.Fatalf("%s has the size %d, not %d", what, got, len(b))
	}
	if !Same(x, clone(x)) {
		t.Fatalf("%s isn't the same as itself", what)
	}
	if e != api.OK {
		return
	}
	if got, gotE := Read(b); gotE != api.OK || !same(got, x) || !Same(got, x) {
		t.Fatalf("%s is read as %v, %v", what, got, gotE)
	}
}

// named is something that is done to a transaction, and the error to which it leads.
type named struct {
	what string
	turn func(t *api.Tx)
	e    api.Errno
}

// faults make transactions of 4 inputs and 4 outputs wrong, in one way each.
func faults() []named {
	list := []named{
		{"no inputs", func(t *api.Tx) { t.Ins = nil }, api.ErrLong},
		{"inputs without elements", func(t *api.Tx) { t.Ins = []api.In{} }, api.ErrLong},
		{"no outputs", func(t *api.Tx) { t.Outs = nil }, api.ErrLong},
		{"outputs without elements", func(t *api.Tx) { t.Outs = []api.Out{} }, api.ErrLong},
		{"17 inputs", func(t *api.Tx) { t.Ins = some(17, 4).Ins }, api.ErrLong},
		{"17 outputs", func(t *api.Tx) { t.Outs = some(4, 17).Outs }, api.ErrLong},
		{"65 bytes of a secret", func(t *api.Tx) { t.Ins[2].Secret = row(65) }, api.ErrLong},
		{"a long secret", func(t *api.Tx) { t.Ins[3].Secret = row(1 << 16) }, api.ErrLong},
		{"an amount of 0 that comes in", func(t *api.Tx) { t.Ins[1].Amount = 0 }, api.ErrZero},
		{"an amount of 0 that goes out", func(t *api.Tx) { t.Outs[3].Amount = 0 }, api.ErrZero},
		{"an output spent twice", func(t *api.Tx) { t.Ins[3].P = t.Ins[0].P }, api.ErrTwice},
		{"too much that comes in", func(t *api.Tx) { t.Ins[1].Amount = top }, api.ErrSum},
		{"too much that goes out", func(t *api.Tx) { t.Outs[1].Amount = top }, api.ErrSum},
		{"too great a fee", func(t *api.Tx) { t.Fee = most }, api.ErrSum},
		{"less that comes in", func(t *api.Tx) { t.Ins[0].Amount-- }, api.ErrLess},
		{"more that comes in", func(t *api.Tx) { t.Ins[0].Amount++ }, api.ErrLess},
		{"a fee for which nothing comes", func(t *api.Tx) { t.Fee++ }, api.ErrLess},
	}
	for _, n := range []int{-1, -16, math.MinInt, 16, 17, 256, 1 << 32, 1<<32 + 3, math.MaxInt} {
		list = append(list, named{"an index outside", func(t *api.Tx) { t.Ins[3].P.Index = n }, api.ErrLong})
	}
	for _, n := range []int{-1, math.MinInt, epochs + 1, epochs * 2, math.MaxInt} {
		list = append(list, named{"an expiry outside", func(t *api.Tx) { t.Expiry = n }, api.ErrLong})
	}
	return list
}

// P7.1: Check

func TestCheckOfRightOnes(t *testing.T) {
	quarter := []uint64{top / 4, top / 4, top / 4, top / 4}
	for _, c := range []struct {
		what string
		x    api.Tx
	}{
		{"the example", of([]uint64{5}, []uint64{4}, 1)},
		{"the least", of([]uint64{1}, []uint64{1}, 0)},
		{"no fee", some(2, 2)},
		{"a fee above what is paid", of([]uint64{9}, []uint64{1}, 8)},
		{"16 inputs", some(16, 1)},
		{"16 outputs", some(1, 16)},
		{"16 of both", some(16, 16)},
		{"the greatest amounts", of([]uint64{top}, []uint64{top}, 0)},
		{"the greatest of many", of(quarter, quarter, 0)},
		{"the greatest fee", of([]uint64{top}, []uint64{1}, top-1)},
		{"the least fee of the greatest", of([]uint64{top - 1, 1}, []uint64{top - 1}, 1)},
		{"no secret", with(some(2, 2), func(t *api.Tx) { t.Ins[0].Secret = nil })},
		{"64 bytes of a secret", with(some(2, 2), func(t *api.Tx) { t.Ins[0].Secret = row(64) })},
		{"index 15", with(some(2, 2), func(t *api.Tx) { t.Ins[1].P.Index = 15 })},
		{"expiry 0", with(some(2, 2), func(t *api.Tx) { t.Expiry = 0 })},
		{"the greatest expiry", with(some(2, 2), func(t *api.Tx) { t.Expiry = epochs })},
		{"one owner of all", with(some(2, 3), func(t *api.Tx) { t.Outs[0], t.Outs[1] = t.Outs[2], t.Outs[2] })},
		{"one secret of all", with(some(2, 3), func(t *api.Tx) { t.Ins[0].Secret = t.Ins[1].Secret })},
		{"no digests", with(some(1, 1), func(t *api.Tx) { t.Ins[0].P.Tx, t.Outs[0].Owner = api.Id{}, api.Id{} })},
	} {
		if got := Check(c.x); got != api.OK {
			t.Errorf("%s: %v", c.what, got)
		}
		check(t, c.what, c.x)
	}
}

func TestCheckOfOneFault(t *testing.T) {
	if got := Check(some(4, 4)); got != api.OK {
		t.Fatal(got)
	}
	for _, f := range faults() {
		x := with(some(4, 4), f.turn)
		if got := Check(x); got != f.e {
			t.Errorf("%s: %v, not %v", f.what, got, f.e)
		}
		check(t, f.what, x)
	}
	if got := Check(api.Tx{}); got != api.ErrLong {
		t.Errorf("of nothing: %v", got)
	}
}

func TestCheckOfEveryCount(t *testing.T) {
	for ins := range 40 {
		for outs := range 40 {
			want := api.OK
			if ins < 1 || ins > 16 || outs < 1 || outs > 16 {
				want = api.ErrLong
			}
			if got := Check(some(ins, outs)); got != want {
				t.Errorf("%d inputs, %d outputs: %v, not %v", ins, outs, got, want)
			}
			check(t, "of a count", some(ins, outs))
		}
	}
	long := api.Tx{Ins: make([]api.In, 1<<20), Outs: make([]api.Out, 1<<20)}
	check(t, "a long one", long)
}

// What each input, and each output, has is looked at, not that of the first alone.
func TestCheckLooksAtEachPlace(t *testing.T) {
	for n := 1; n <= 16; n++ {
		for at := range n {
			for _, f := range []named{
				{"secret", func(t *api.Tx) { t.Ins[at].Secret = row(65) }, api.ErrLong},
				{"index below", func(t *api.Tx) { t.Ins[at].P.Index = -1 }, api.ErrLong},
				{"index above", func(t *api.Tx) { t.Ins[at].P.Index = 16 }, api.ErrLong},
				{"nothing comes in", func(t *api.Tx) { t.Ins[at].Amount = 0 }, api.ErrZero},
				{"nothing goes out", func(t *api.Tx) { t.Outs[at].Amount = 0 }, api.ErrZero},
				{"too much comes in", func(t *api.Tx) { t.Ins[at].Amount = top + 1 }, api.ErrSum},
				{"too much goes out", func(t *api.Tx) { t.Outs[at].Amount = top + 1 }, api.ErrSum},
				{"one less comes in", func(t *api.Tx) { t.Ins[at].Amount-- }, api.ErrLess},
				{"one less goes out", func(t *api.Tx) { t.Outs[at].Amount-- }, api.ErrLess},
			} {
				x := with(some(n, n), f.turn)
				if got := Check(x); got != f.e {
					t.Errorf("%s at %d of %d: %v, not %v", f.what, at, n, got, f.e)
				}
				check(t, f.what, x)
			}
		}
	}
}

func TestCheckOfEverySecretIndexAndExpiry(t *testing.T) {
	for n := range 200 {
		check(t, "a secret", with(some(3, 2), func(t *api.Tx) { t.Ins[1].Secret = row(n) }))
	}
	for n := -40; n < 40; n++ {
		check(t, "an index", with(some(3, 2), func(t *api.Tx) { t.Ins[0].P = api.Point{Tx: digest(9), Index: n} }))
	}
	for n := -3; n < 4; n++ {
		for _, by := range []int{0, 256, 1 << 32, epochs, epochs * 2, math.MaxInt - 3} {
			check(t, "an expiry", with(some(3, 2), func(t *api.Tx) { t.Expiry = by + n }))
			check(t, "an expiry", with(some(3, 2), func(t *api.Tx) { t.Expiry = n - by }))
		}
	}
}

func TestCheckOfOutputsSpentTwice(t *testing.T) {
	for n := 2; n <= 16; n++ {
		for i := range n {
			for j := range n {
				x := with(some(n, 1), func(t *api.Tx) { t.Ins[i].P = t.Ins[j].P })
				want := api.ErrTwice
				if i == j {
					want = api.OK
				}
				if got := Check(x); got != want {
					t.Errorf("%d and %d of %d: %v, not %v", i, j, n, got, want)
				}
			}
		}
	}
}

// Inputs are one output just if the digest and the index are the same; amounts
// and secrets don't count.
func TestCheckOfOutputsThatAreNear(t *testing.T) {
	for bit := range 256 {
		x := with(some(2, 2), func(t *api.Tx) {
			t.Ins[1].P = t.Ins[0].P
			t.Ins[1].P.Tx[bit/8] ^= 1 << (bit % 8)
		})
		check(t, "a bit of the digest", x)
		if got := Check(x); got != api.OK {
			t.Errorf("bit %d: %v", bit, got)
		}
	}
	for index := range 16 {
		x := with(some(2, 2), func(t *api.Tx) { t.Ins[0].P.Index, t.Ins[1].P.Index = 7, index })
		check(t, "an index", x)
		if got := Check(x); (got == api.ErrTwice) != (index == 7) {
			t.Errorf("index %d: %v", index, got)
		}
	}
	x := of([]uint64{2, 3}, []uint64{5}, 0)
	x.Ins[0].Secret, x.Ins[1].Secret = []byte("a"), []byte("b")
	x.Ins[1].P = x.Ins[0].P
	if got := Check(x); got != api.ErrTwice {
		t.Errorf("with other amounts and secrets: %v", got)
	}
}

func TestCheckOfSums(t *testing.T) {
	half := uint64(1) << 63
	for _, c := range []struct {
		ins, outs []uint64
		fee       uint64
		want      api.Errno
	}{
		{[]uint64{5}, []uint64{4}, 1, api.OK},
		{[]uint64{5}, []uint64{4}, 0, api.ErrLess},
		{[]uint64{5}, []uint64{4}, 2, api.ErrLess},
		{[]uint64{5}, []uint64{5}, 1, api.ErrLess},
		{[]uint64{top}, []uint64{top - 1}, 1, api.OK},
		{[]uint64{top}, []uint64{top - 1}, 0, api.ErrLess},
		{[]uint64{top - 1}, []uint64{top - 1}, 1, api.ErrLess},
		{[]uint64{1}, []uint64{top}, 0, api.ErrLess},
		{[]uint64{top}, []uint64{1}, 0, api.ErrLess},
		{[]uint64{top}, []uint64{top}, 1, api.ErrSum},
		{[]uint64{top}, []uint64{1}, top, api.ErrSum},
		{[]uint64{top, 1}, []uint64{top, 1}, 0, api.ErrSum},
		{[]uint64{top, 1}, []uint64{top}, 1, api.ErrSum},
		{[]uint64{top, 1}, []uint64{1}, 0, api.ErrSum},
		{[]uint64{1}, []uint64{top, 1}, 0, api.ErrSum},
		{[]uint64{top + 1}, []uint64{top + 1}, 0, api.ErrSum},
		{[]uint64{1}, []uint64{1}, top + 1, api.ErrSum},
		// As 64 bits go round the sums would be amounts, and the same.
		{[]uint64{half, half, 5}, []uint64{5}, 0, api.ErrSum},
		{[]uint64{5}, []uint64{half, half, 5}, 0, api.ErrSum},
		{[]uint64{5}, []uint64{6}, most, api.ErrSum},
		{[]uint64{5}, []uint64{half, 5}, half, api.ErrSum},
		{[]uint64{top, top, top, top, 5}, []uint64{5}, 0, api.ErrSum},
		{[]uint64{most, 6}, []uint64{4}, 1, api.ErrSum},
	} {
		x := of(c.ins, c.outs, c.fee)
		if got := Check(x); got != c.want {
			t.Errorf("%d to %d, fee %d: %v, not %v", c.ins, c.outs, c.fee, got, c.want)
		}
		check(t, "sums", x)
	}
}

func TestCheckOfEveryThreeEdges(t *testing.T) {
	edges := []uint64{0, 1, 2, 5, 255, 256, top / 2, top - 2, top - 1, top, top + 1, 1<<63 - 1, 1 << 63, 1<<63 + 1, most - 1, most}
	for _, a := range edges {
		for _, b := range edges {
			for _, c := range edges {
				check(t, "one input", of([]uint64{a}, []uint64{b}, c))
				check(t, "two inputs", of([]uint64{a, b}, []uint64{c}, 0))
				check(t, "two outputs", of([]uint64{a}, []uint64{b, c}, 0))
			}
		}
	}
}

// Of two faults that one is told which the document names first, in whatever
// order they came in.
func TestCheckTellsTheFirstOfFaults(t *testing.T) {
	order := []api.Errno{api.ErrLong, api.ErrTwice, api.ErrZero, api.ErrSum, api.ErrLess}
	list := []named{
		{"index", func(t *api.Tx) { t.Ins[2].P.Index = 16 }, api.ErrLong},
		{"secret", func(t *api.Tx) { t.Ins[2].Secret = row(65) }, api.ErrLong},
		{"expiry", func(t *api.Tx) { t.Expiry = epochs + 1 }, api.ErrLong},
		{"outputs", func(t *api.Tx) { t.Outs = append(t.Outs, some(4, 13).Outs...) }, api.ErrLong},
		{"twice", func(t *api.Tx) { t.Ins[3].P = t.Ins[0].P }, api.ErrTwice},
		{"0 in", func(t *api.Tx) { t.Ins[0].Amount = 0 }, api.ErrZero},
		{"0 out", func(t *api.Tx) { t.Outs[0].Amount = 0 }, api.ErrZero},
		{"sum in", func(t *api.Tx) { t.Ins[1].Amount = top + 1 }, api.ErrSum},
		{"sum out", func(t *api.Tx) { t.Outs[1].Amount = top + 1 }, api.ErrSum},
		{"fee", func(t *api.Tx) { t.Fee = most }, api.ErrSum},
		{"less", func(t *api.Tx) { t.Ins[2].Amount-- }, api.ErrLess},
	}
	for set := 1; set < 1<<len(list); set++ {
		first, x := len(order), clone(some(4, 4))
		for i, f := range list {
			if set>>i&1 == 1 {
				first = min(first, slices.Index(order, f.e))
				f.turn(&x)
			}
		}
		if got := Check(x); got != order[first] {
			t.Errorf("faults %b: %v, not %v", set, got, order[first])
		}
		check(t, "faults", x)
	}
}

// P7.1: Put, Id, Size, Owner

func TestPutByHand(t *testing.T) {
	one, two, owner := digest(1), digest(2), digest(3)
	x := api.Tx{
		Ins: []api.In{
			{P: api.Point{Tx: one, Index: 0}, Amount: 300, Secret: []byte("ab")},
			{P: api.Point{Tx: two, Index: 15}, Amount: 5},
		},
		Outs:   []api.Out{{Owner: owner, Amount: 256}},
		Fee:    49,
		Expiry: epochs,
	}
	want := "\x01\x02" +
		string(one[:]) + "\x00" + "\x02\x01\x2c" + "\x01\x02ab" +
		string(two[:]) + "\x01\x0f" + "\x01\x05" + "\x00" +
		"\x01\x01" +
		string(owner[:]) + "\x02\x01\x00" +
		"\x01\x31" + "\x06\x01\x00\x00\x00\x00\x00"
	got, e := Put(x)
	if e != api.OK || string(got) != want {
		t.Errorf("% x, %v, not % x", got, e, want)
	}
	if Size(x) != len(want) || Id(x) != digestUnder(8, []byte(want)) {
		t.Errorf("%d bytes, digest %x", Size(x), Id(x))
	}
}

func TestTheGreatestForm(t *testing.T) {
	x := some(16, 16)
	for i := range x.Ins {
		x.Ins[i] = api.In{P: api.Point{Tx: digest(i), Index: 15}, Amount: top / 16, Secret: row(64)}
		x.Outs[i].Amount = top/16 - 1
	}
	x.Fee, x.Expiry = 16, epochs
	check(t, "the greatest", x)
	// Counts; 16 of digest, index, amount and secret; 16 of owner and amount; fee; expiry.
	if want := 2 + 16*(32+2+9+66) + 2 + 16*(32+9) + 2 + 7; Size(x) != want {
		t.Errorf("%d bytes, not %d", Size(x), want)
	}
}

func TestIdIsOfTheWholeForm(t *testing.T) {
	seen := map[api.Id]int{}
	for i, x := range near() {
		if other, met := seen[Id(x)]; met {
			t.Errorf("%d and %d have one digest", i, other)
		}
		seen[Id(x)] = i
	}
	if _, met := seen[api.Id{}]; met {
		t.Error("a right one has the digest of zeros")
	}
}

func TestOwner(t *testing.T) {
	for n := range 200 {
		if got, want := Owner(row(n)), digestUnder(9, row(n)); got != want {
			t.Errorf("of %d bytes: %x, not %x", n, got, want)
		}
	}
	if Owner(nil) != digestUnder(9, nil) || Owner([]byte{}) != Owner(nil) {
		t.Error("of no bytes")
	}
	if long := row(1<<16 + 3); Owner(long) != digestUnder(9, long) {
		t.Error("of many bytes")
	}
	if Owner([]byte("a")) == Owner([]byte("a\x00")) || Owner(nil) == Owner([]byte{0}) {
		t.Error("one with a 0 behind")
	}
}
