package mapping

import (
	"bytes"
	"crypto/sha256"
	"math"
	"math/big"
	"slices"
	"testing"

	"seisin/api"
	"seisin/tx"
)

// numbers are some numbers of shards, the least and the greatest among them.
func numbers() []int { return []int{1, 2, 3, 4, 7, 16, 17, 32, 63, 64} }

// outside are numbers of shards that can't be.
func outside() []int {
	return []int{0, -1, -2, -64, math.MinInt, math.MinInt + 1, 65, 66, 128, 256, 257, 1 << 32, 1<<32 + 1, 1<<32 + 64, math.MaxInt}
}

func digest(n int) api.Id { return sha256.Sum256([]byte{byte(n >> 16), byte(n >> 8), byte(n)}) }

// number is what is divided, by the document's words and the library's digests.
func number(p api.Point) *big.Int {
	b := append([]byte{10, 0, 0, 0, 32}, p.Tx[:]...)
	b = append(b, 0, 0, 0, 1, byte(p.Index))
	d := sha256.Sum256(b)
	return new(big.Int).SetBytes(d[:8])
}

// exact is the shard of an output.
func exact(p api.Point, n int) int {
	return int(new(big.Int).Mod(number(p), big.NewInt(int64(n))).Int64())
}

func pointsIn(t api.Tx) []api.Point {
	var l []api.Point
	for _, in := range t.Ins {
		l = append(l, in.P)
	}
	return l
}

func pointsOut(t api.Tx) []api.Point {
	var l []api.Point
	own := tx.Id(t)
	for i := range t.Outs {
		l = append(l, api.Point{Tx: own, Index: i})
	}
	return l
}

// placesAt are the places of those outputs that are of a shard.
func placesAt(l []api.Point, n, shard int) []int {
	var at []int
	for i, p := range l {
		if exact(p, n) == shard {
			at = append(at, i)
		}
	}
	return at
}

// shardsAt are the shards that have one of the outputs, told by asking for each.
func shardsAt(l []api.Point, n int) []int {
	var of []int
	for shard := range n {
		if len(placesAt(l, n, shard)) > 0 {
			of = append(of, shard)
		}
	}
	return of
}

// with answers a transaction of these inputs and of so many outputs; what it
// has besides hangs on a seed.
func with(l []api.Point, outs, seed int) api.Tx {
	t := api.Tx{Fee: 3, Expiry: seed}
	for i, p := range l {
		t.Ins = append(t.Ins, api.In{P: p, Amount: uint64(1000*outs + i), Secret: []byte{byte(i)}})
		t.Fee += uint64(i)
	}
	for i := range outs {
		t.Outs = append(t.Outs, api.Out{Owner: digest(i), Amount: uint64(1000 * len(l))})
	}
	t.Outs[0].Amount -= 3
	return t
}

// some answers a transaction of so many inputs and outputs.
func some(ins, outs, seed int) api.Tx {
	var l []api.Point
	for i := range ins {
		l = append(l, api.Point{Tx: digest(1000*seed + i/3), Index: (i + seed) % 16})
	}
	return with(l, outs, seed)
}

// at answers so many outputs that are all of one shard.
func at(count, n, shard int) []api.Point {
	var l []api.Point
	for i := 0; len(l) < count; i++ {
		if p := (api.Point{Tx: digest(i / 16), Index: i % 16}); exact(p, n) == shard {
			l = append(l, p)
		}
	}
	return l
}

// between answers a transaction whose inputs are all of one shard, and whose
// outputs are all of one shard, too.
func between(ins, outs, n, from, to int) api.Tx {
	l := at(ins, n, from)
	for seed := 0; ; seed++ {
		if t := with(l, outs, seed); len(placesAt(pointsOut(t), n, to)) == outs {
			return t
		}
	}
}

func clone(t api.Tx) api.Tx {
	t.Ins, t.Outs = slices.Clone(t.Ins), slices.Clone(t.Outs)
	for i := range t.Ins {
		t.Ins[i].Secret = bytes.Clone(t.Ins[i].Secret)
	}
	return t
}

// check holds all calls on a right transaction against the document's words.
func check(t *testing.T, x api.Tx, n int) {
	t.Helper()
	if e := tx.Check(x); e != api.OK {
		t.Fatalf("the test's transaction isn't right: %v", e)
	}
	ins, outs := pointsIn(x), pointsOut(x)
	if got, want := Ins(x, n), shardsAt(ins, n); !slices.Equal(got, want) {
		t.Fatalf("of %d shards inputs are at %d, not %d", n, got, want)
	}
	if got, want := Outs(x, n), shardsAt(outs, n); !slices.Equal(got, want) {
		t.Fatalf("of %d shards outputs are at %d, not %d", n, got, want)
	}
	one, single := 0, false
	if all := shardsAt(append(ins, outs...), n); len(all) == 1 {
		one, single = all[0], true
	}
	if got, ok := Single(x, n); got != one || ok != single {
		t.Fatalf("of %d shards the single one is %d, %v, not %d, %v", n, got, ok, one, single)
	}
	for shard := -2; shard < n+2; shard++ {
		gotIns, gotOuts := At(x, n, shard)
		if !slices.Equal(gotIns, placesAt(ins, n, shard)) || !slices.Equal(gotOuts, placesAt(outs, n, shard)) {
			t.Fatalf("of %d shards %d has %d and %d", n, shard, gotIns, gotOuts)
		}
	}
}

// nothing holds all calls of which there is nothing to tell.
func nothing(t *testing.T, what string, x api.Tx, n int) {
	t.Helper()
	if got := Ins(x, n); len(got) != 0 {
		t.Errorf("%s, %d shards: inputs at %d", what, n, got)
	}
	if got := Outs(x, n); len(got) != 0 {
		t.Errorf("%s, %d shards: outputs at %d", what, n, got)
	}
	if got, ok := Single(x, n); ok || got != 0 {
		t.Errorf("%s, %d shards: all at %d, %v", what, n, got, ok)
	}
	for _, shard := range []int{math.MinInt, -1, 0, 1, 2, n - 1, n, 64, math.MaxInt} {
		if ins, outs := At(x, n, shard); len(ins) != 0 || len(outs) != 0 {
			t.Errorf("%s, %d shards: %d has %d and %d", what, n, shard, ins, outs)
		}
	}
}

// P8.1: Of

// What is told here was made by another program.
func TestOfKnownShards(t *testing.T) {
	var ones, counted api.Id
	for i := range ones {
		ones[i], counted[i] = 0xff, byte(i)
	}
	by := []int{1, 2, 3, 4, 7, 16, 63, 64}
	for _, c := range []struct {
		p    api.Point
		want []int
	}{
		{api.Point{}, []int{0, 0, 2, 0, 5, 8, 26, 56}},
		{api.Point{Index: 1}, []int{0, 1, 2, 3, 1, 11, 29, 43}},
		{api.Point{Index: 15}, []int{0, 1, 0, 3, 3, 11, 3, 59}},
		{api.Point{Tx: ones}, []int{0, 1, 0, 1, 2, 1, 30, 33}},
		{api.Point{Tx: ones, Index: 7}, []int{0, 1, 1, 1, 4, 13, 4, 29}},
		{api.Point{Tx: ones, Index: 15}, []int{0, 0, 0, 2, 4, 6, 18, 6}},
		{api.Point{Tx: counted}, []int{0, 0, 2, 0, 3, 0, 17, 48}},
		{api.Point{Tx: counted, Index: 15}, []int{0, 0, 2, 0, 2, 8, 44, 56}},
		{api.Point{Tx: api.Id{1}}, []int{0, 0, 1, 0, 2, 4, 37, 4}},
		{api.Point{Tx: api.Id{31: 1}, Index: 1}, []int{0, 1, 1, 3, 5, 11, 61, 27}},
	} {
		for i, n := range by {
			if got, ok := Of(c.p, n); got != c.want[i] || !ok {
				t.Errorf("%x, %d of %d shards: %d, %v, not %d", c.p.Tx, c.p.Index, n, got, ok, c.want[i])
			}
		}
	}
}

func TestOfEveryNumberOfShards(t *testing.T) {
	for i := range 60 {
		for index := range 16 {
			p := api.Point{Tx: digest(i), Index: index}
			for n := 1; n <= 64; n++ {
				if got, ok := Of(p, n); got != exact(p, n) || !ok {
					t.Fatalf("%x, %d of %d shards: %d, %v, not %d", p.Tx, index, n, got, ok, exact(p, n))
				}
			}
		}
	}
}

// A digest whose first bit is 1 is a number above 2^63, and none below 0.
func TestOfNumbersOfAllSizes(t *testing.T) {
	high, low, half := 0, 0, new(big.Int).Lsh(big.NewInt(1), 63)
	for i := range 400 {
		p := api.Point{Tx: digest(i), Index: i % 16}
		if number(p).Cmp(half) >= 0 {
			high++
		} else {
			low++
		}
		for _, n := range numbers() {
			if got, ok := Of(p, n); got != exact(p, n) || !ok {
				t.Errorf("%x of %d shards: %d, %v, not %d", number(p), n, got, ok, exact(p, n))
			}
		}
	}
	if high < 100 || low < 100 {
		t.Errorf("only %d high ones and %d low ones", high, low)
	}
}

func TestOfNumbersOfShardsOutside(t *testing.T) {
	for _, n := range outside() {
		for index := range 16 {
			if got, ok := Of(api.Point{Tx: digest(1), Index: index}, n); got != 0 || ok {
				t.Errorf("%d of %d shards: %d, %v", index, n, got, ok)
			}
		}
	}
}

func TestOfIndexesOutside(t *testing.T) {
	for _, index := range []int{-1, -2, -15, -16, -256, math.MinInt, 16, 17, 255, 256, 256 + 3, 1 << 32, 1<<32 + 3, math.MaxInt} {
		for n := -2; n < 70; n++ {
			if got, ok := Of(api.Point{Tx: digest(1), Index: index}, n); got != 0 || ok {
				t.Errorf("%d of %d shards: %d, %v", index, n, got, ok)
			}
		}
	}
	for index := -40; index < 40; index++ {
		if _, ok := Of(api.Point{Index: index}, 5); ok != (index >= 0 && index <= 15) {
			t.Errorf("an index of %d: %v", index, ok)
		}
	}
}

// The shard hangs on all of the output's parts: each bit of the digest counts.
func TestOfEveryBitOfAnOutput(t *testing.T) {
	for bit := range 256 {
		p := api.Point{Tx: digest(7), Index: bit % 16}
		p.Tx[bit/8] ^= 1 << (bit % 8)
		for _, n := range numbers() {
			if got, ok := Of(p, n); got != exact(p, n) || !ok {
				t.Errorf("bit %d, %d shards: %d, %v, not %d", bit, n, got, ok, exact(p, n))
			}
		}
	}
}

func TestOfEveryShardHasOutputs(t *testing.T) {
	for n := 1; n <= 64; n++ {
		count := make([]int, n)
		for i := range 1600 {
			shard, ok := Of(api.Point{Tx: digest(i / 16), Index: i % 16}, n)
			if !ok || shard < 0 || shard >= n {
				t.Fatalf("of %d shards: %d, %v", n, shard, ok)
			}
			count[shard]++
		}
		if slices.Min(count) == 0 {
			t.Errorf("of %d shards: %d", n, count)
		}
	}
}

// P8.1: Ins, Outs, Single, At

func TestOfEveryCountOfInputsAndOutputs(t *testing.T) {
	for ins := 1; ins <= 16; ins++ {
		for outs := 1; outs <= 16; outs++ {
			for _, n := range []int{1, 2, 5, 64} {
				check(t, some(ins, outs, ins+outs), n)
			}
		}
	}
}

func TestOfTransactionsOverEveryNumberOfShards(t *testing.T) {
	for n := 1; n <= 64; n++ {
		check(t, some(1, 1, n), n)
		check(t, some(1, 16, n), n)
		check(t, some(16, 1, n), n)
		check(t, some(16, 16, n), n)
	}
}

// The example: of one shard all is at 0.
func TestOfOneShardAllIsAtNought(t *testing.T) {
	for _, count := range [][2]int{{1, 1}, {1, 16}, {16, 1}, {2, 3}, {16, 16}} {
		x := some(count[0], count[1], 5)
		if got := Ins(x, 1); !slices.Equal(got, []int{0}) {
			t.Errorf("inputs at %d", got)
		}
		if got := Outs(x, 1); !slices.Equal(got, []int{0}) {
			t.Errorf("outputs at %d", got)
		}
		if got, ok := Single(x, 1); got != 0 || !ok {
			t.Errorf("all at %d, %v", got, ok)
		}
		ins, outs := At(x, 1, 0)
		if len(ins) != count[0] || len(outs) != count[1] || !slices.IsSorted(ins) || !slices.IsSorted(outs) {
			t.Errorf("there %d and %d", ins, outs)
		}
		if ins, outs := At(x, 1, 1); len(ins)+len(outs) != 0 {
			t.Errorf("at another one %d and %d", ins, outs)
		}
	}
}

// Inputs that come in falling order of their shards, and twice of each, are told
// rising, each shard once.
func TestShardsAreToldRisingAndOnce(t *testing.T) {
	for _, n := range []int{2, 3, 8, 16, 64} {
		var l []api.Point
		for shard := min(n, 8) - 1; shard >= 0; shard-- {
			l = append(l, at(1, n, shard)...)
		}
		for shard := min(n, 8) - 1; shard >= 0; shard-- {
			l = append(l, at(2, n, shard)[1])
		}
		x := with(l, 2, n)
		want := []int{0, 1, 2, 3, 4, 5, 6, 7}[:min(n, 8)]
		if got := Ins(x, n); !slices.Equal(got, want) {
			t.Errorf("of %d shards: %d, not %d", n, got, want)
		}
		for i, shard := range want {
			last := len(want) - 1 - i
			if ins, _ := At(x, n, shard); !slices.Equal(ins, []int{last, last + len(want)}) {
				t.Errorf("of %d shards %d has %d", n, shard, ins)
			}
		}
		check(t, x, n)
	}
}

func TestSeveralAtOneShard(t *testing.T) {
	for _, n := range []int{2, 3, 16, 64} {
		own, other := at(6, n, n-1), at(1, n, 0)
		x := with(slices.Concat(own[:2], other, own[2:]), 1, n)
		if got := Ins(x, n); !slices.Equal(got, []int{0, n - 1}) {
			t.Errorf("of %d shards: %d", n, got)
		}
		if ins, _ := At(x, n, n-1); !slices.Equal(ins, []int{0, 1, 3, 4, 5, 6}) {
			t.Errorf("of %d shards the last has %d", n, ins)
		}
		if ins, _ := At(x, n, 0); !slices.Equal(ins, []int{2}) {
			t.Errorf("of %d shards the first has %d", n, ins)
		}
		check(t, x, n)
	}
}

func TestAllAtOneShard(t *testing.T) {
	for _, c := range []struct{ ins, outs, n int }{{1, 1, 2}, {16, 1, 2}, {1, 8, 2}, {16, 8, 2}, {3, 3, 5}, {16, 2, 16}, {1, 1, 64}, {16, 1, 64}} {
		for _, shard := range []int{0, c.n / 2, c.n - 1} {
			x := between(c.ins, c.outs, c.n, shard, shard)
			if got, ok := Single(x, c.n); got != shard || !ok {
				t.Errorf("of %d shards all at %d: %d, %v", c.n, shard, got, ok)
			}
			ins, outs := At(x, c.n, shard)
			if len(ins) != c.ins || len(outs) != c.outs {
				t.Errorf("of %d shards all at %d: %d and %d", c.n, shard, ins, outs)
			}
			check(t, x, c.n)
		}
	}
}

// That all inputs are at one shard, and all outputs at another one, is not all
// at one.
func TestAllAtOneShardIsOfBothParts(t *testing.T) {
	for _, n := range []int{2, 3, 16, 64} {
		for _, c := range [][2]int{{0, 1}, {1, 0}, {0, n - 1}, {n - 1, 0}} {
			x := between(2, 1, n, c[0], c[1])
			if got, ok := Single(x, n); got != 0 || ok {
				t.Errorf("of %d shards from %d to %d: %d, %v", n, c[0], c[1], got, ok)
			}
			if got := Ins(x, n); !slices.Equal(got, c[:1]) {
				t.Errorf("of %d shards from %d: %d", n, c[0], got)
			}
			if got := Outs(x, n); !slices.Equal(got, c[1:]) {
				t.Errorf("of %d shards to %d: %d", n, c[1], got)
			}
			if ins, outs := At(x, n, c[0]); len(ins) != 2 || len(outs) != 0 {
				t.Errorf("of %d shards %d has %d and %d", n, c[0], ins, outs)
			}
			check(t, x, n)
		}
	}
}

// One input, or one output, that is elsewhere, at whatever place, parts a
// transaction.
func TestOneElsewhere(t *testing.T) {
	for place := range 16 {
		l := at(16, 2, 1)
		l[place] = at(1, 2, 0)[0]
		x := with(l, 1, 9)
		if got, ok := Single(x, 2); got != 0 || ok {
			t.Errorf("input %d elsewhere: %d, %v", place, got, ok)
		}
		if ins, _ := At(x, 2, 0); !slices.Equal(ins, []int{place}) {
			t.Errorf("input %d elsewhere: %d", place, ins)
		}
		check(t, x, 2)
	}
	lonely := map[int]int{}
	for seed := 0; len(lonely) < 5; seed++ {
		x := with(at(2, 2, 1), 5, seed)
		if l := placesAt(pointsOut(x), 2, 0); len(l) == 1 {
			lonely[l[0]]++
			if got, ok := Single(x, 2); got != 0 || ok {
				t.Errorf("output %d elsewhere: %d, %v", l[0], got, ok)
			}
			check(t, x, 2)
		}
	}
}

// The outputs' transaction is the one that makes them: each of its parts counts.
func TestOutputsAreOfTheWholeTransaction(t *testing.T) {
	seen := map[int]int{}
	for seed := range 40 {
		x := with(at(1, 64, 5), 1, seed)
		want, _ := Of(api.Point{Tx: tx.Id(x)}, 64)
		if got := Outs(x, 64); !slices.Equal(got, []int{want}) {
			t.Errorf("expiry %d: %d, not %d", seed, got, want)
		}
		if got := Ins(x, 64); !slices.Equal(got, []int{5}) {
			t.Errorf("expiry %d: inputs at %d", seed, got)
		}
		seen[want]++
	}
	if len(seen) < 10 {
		t.Errorf("outputs at %d shards alone", len(seen))
	}
}

func TestAtNoShard(t *testing.T) {
	for _, n := range numbers() {
		x := some(16, 16, n)
		for _, shard := range []int{math.MinInt, -64, -1, n, n + 1, 64, 65, 1 << 32, math.MaxInt} {
			if ins, outs := At(x, n, shard); len(ins) != 0 || len(outs) != 0 {
				t.Errorf("of %d shards %d has %d and %d", n, shard, ins, outs)
			}
		}
	}
}

func TestNumbersOfShardsOutside(t *testing.T) {
	for _, n := range outside() {
		nothing(t, "a right one", some(3, 2, 1), n)
		nothing(t, "the least", some(1, 1, 1), n)
		nothing(t, "the greatest", some(16, 16, 1), n)
		nothing(t, "none", api.Tx{}, n)
	}
}

func TestTransactionsThatAreNotRight(t *testing.T) {
	for _, c := range []struct {
		what string
		turn func(t *api.Tx)
	}{
		{"without all", func(t *api.Tx) { *t = api.Tx{} }},
		{"no inputs", func(t *api.Tx) { t.Ins = nil }},
		{"no outputs", func(t *api.Tx) { t.Outs = []api.Out{} }},
		{"17 inputs", func(t *api.Tx) { t.Ins = some(17, 4, 1).Ins }},
		{"17 outputs", func(t *api.Tx) { t.Outs = some(4, 17, 1).Outs }},
		{"17 of both", func(t *api.Tx) { *t = some(17, 17, 1) }},
		{"many", func(t *api.Tx) { t.Ins, t.Outs = make([]api.In, 1<<16), make([]api.Out, 1<<16) }},
		{"a long secret", func(t *api.Tx) { t.Ins[2].Secret = make([]byte, 65) }},
		{"an index below", func(t *api.Tx) { t.Ins[0].P.Index = -1 }},
		{"an index above", func(t *api.Tx) { t.Ins[3].P.Index = 16 }},
		{"an expiry below", func(t *api.Tx) { t.Expiry = -1 }},
		{"an expiry above", func(t *api.Tx) { t.Expiry = 1<<40 + 1 }},
		{"an output spent twice", func(t *api.Tx) { t.Ins[1].P = t.Ins[2].P }},
		{"nothing comes in", func(t *api.Tx) { t.Ins[1].Amount = 0 }},
		{"nothing goes out", func(t *api.Tx) { t.Outs[1].Amount = 0 }},
		{"too much comes in", func(t *api.Tx) { t.Ins[1].Amount = 1<<62 + 1 }},
		{"too much goes out", func(t *api.Tx) { t.Outs[1].Amount = math.MaxUint64 }},
		{"too great a fee", func(t *api.Tx) { t.Fee = 1 << 63 }},
		{"one less comes in", func(t *api.Tx) { t.Ins[0].Amount-- }},
		{"one more goes out", func(t *api.Tx) { t.Outs[3].Amount++ }},
		{"another fee", func(t *api.Tx) { t.Fee++ }},
	} {
		x := clone(some(4, 4, 1))
		c.turn(&x)
		if tx.Check(x) == api.OK {
			t.Fatalf("%s is right", c.what)
		}
		for n := -2; n < 70; n++ {
			nothing(t, c.what, x, n)
		}
		nothing(t, c.what, x, math.MaxInt)
	}
}

func TestTransactionsAtTheirEdges(t *testing.T) {
	for n := 1; n <= 64; n++ {
		x := clone(some(3, 2, n))
		x.Ins[0].P, x.Ins[1].P = api.Point{Tx: digest(n)}, api.Point{Tx: digest(n), Index: 15}
		x.Ins[2].Secret, x.Expiry = make([]byte, 64), 1<<40
		check(t, x, n)
		x.Expiry = 0
		check(t, x, n)
	}
}

// P8.2

func TestEachInputAndOutputIsAtJustOneShard(t *testing.T) {
	for n := 1; n <= 64; n++ {
		for _, count := range [][2]int{{1, 1}, {5, 9}, {16, 16}} {
			x := some(count[0], count[1], n)
			var ins, outs, insShards, outsShards []int
			for shard := -64; shard < 130; shard++ {
				i, o := At(x, n, shard)
				ins, outs = append(ins, i...), append(outs, o...)
				if len(i) > 0 {
					insShards = append(insShards, shard)
				}
				if len(o) > 0 {
					outsShards = append(outsShards, shard)
				}
			}
			slices.Sort(ins)
			slices.Sort(outs)
			if !slices.Equal(ins, upTo(count[0])) || !slices.Equal(outs, upTo(count[1])) {
				t.Errorf("of %d shards: inputs %d, outputs %d", n, ins, outs)
			}
			if !slices.Equal(Ins(x, n), insShards) || !slices.Equal(Outs(x, n), outsShards) {
				t.Errorf("of %d shards: inputs at %d, outputs at %d", n, insShards, outsShards)
			}
		}
	}
}

func upTo(n int) []int {
	l := make([]int, n)
	for i := range l {
		l[i] = i
	}
	return l
}

// What At tells of an output is what Of tells of it.
func TestAtIsAsOf(t *testing.T) {
	for _, n := range numbers() {
		x := some(16, 16, n)
		for i, p := range pointsIn(x) {
			shard, _ := Of(p, n)
			if ins, _ := At(x, n, shard); !slices.Contains(ins, i) {
				t.Errorf("of %d shards input %d isn't at %d", n, i, shard)
			}
		}
		for i, p := range pointsOut(x) {
			shard, _ := Of(p, n)
			if _, outs := At(x, n, shard); !slices.Contains(outs, i) {
				t.Errorf("of %d shards output %d isn't at %d", n, i, shard)
			}
		}
	}
}

// An output is of the shard that asks for it later as an input.
func TestAnOutputIsWhereItIsSpent(t *testing.T) {
	for _, n := range numbers() {
		x := some(3, 16, n)
		y := with(pointsOut(x), 2, n)
		if !slices.Equal(Outs(x, n), Ins(y, n)) {
			t.Errorf("of %d shards: made at %d, spent at %d", n, Outs(x, n), Ins(y, n))
		}
		for shard := range n {
			_, made := At(x, n, shard)
			spent, _ := At(y, n, shard)
			if !slices.Equal(made, spent) {
				t.Errorf("of %d shards at %d: made %d, spent %d", n, shard, made, spent)
			}
		}
	}
}

// R4 and R6

func TestArgumentsAreLeft(t *testing.T) {
	for _, n := range []int{1, 2, 64, 65} {
		whole := some(16, 16, 3)
		x := with(pointsIn(whole)[:5], 4, 3)
		x.Ins, x.Outs = append(whole.Ins[:0:16], x.Ins...), append(whole.Outs[:0:16], x.Outs...)
		before, insBefore, outsBefore := clone(x), slices.Clone(x.Ins[:16]), slices.Clone(x.Outs[:16])
		Ins(x, n)
		Outs(x, n)
		Single(x, n)
		for shard := -1; shard <= n; shard++ {
			At(x, n, shard)
		}
		sameIn := func(a, b api.In) bool {
			return a.P == b.P && a.Amount == b.Amount && bytes.Equal(a.Secret, b.Secret)
		}
		if !tx.Same(x, before) || !slices.EqualFunc(x.Ins[:16], insBefore, sameIn) || !slices.Equal(x.Outs[:16], outsBefore) {
			t.Errorf("of %d shards: changed", n)
		}
		if n <= 64 {
			check(t, x, n)
		}
	}
}

func TestAnswersMayBeWrittenOver(t *testing.T) {
	for _, n := range numbers() {
		x := some(16, 16, n)
		for shard := range n {
			ins, outs := At(x, n, shard)
			wantOuts := slices.Clone(outs)
			ins = ins[:cap(ins)]
			for i := range ins {
				ins[i] = -7
			}
			if !slices.Equal(outs, wantOuts) {
				t.Errorf("of %d shards: the lists of one answer share memory", n)
			}
			for i := range outs {
				outs[i] = -7
			}
		}
		for _, l := range [][]int{Ins(x, n), Outs(x, n)} {
			l = l[:cap(l)]
			for i := range l {
				l[i] = -7
			}
		}
		check(t, x, n)
	}
}

func TestTheSameCallHasTheSameAnswer(t *testing.T) {
	x, y := some(16, 16, 1), some(7, 3, 2)
	for range 3 {
		for _, n := range numbers() {
			check(t, x, n)
			nothing(t, "none", api.Tx{}, n)
			nothing(t, "a right one", x, 65)
			check(t, y, n)
		}
	}
}
