package entry

import (
	"bytes"
	"crypto/sha256"
	"math"
	"math/big"
	"testing"

	"seisin/api"
)

const (
	top  = uint64(1) << 62
	most = uint64(math.MaxUint64)
	// epochs is the greatest epoch.
	epochs = 1 << 40
)

func digest(n int) api.Id { return sha256.Sum256([]byte{byte(n >> 8), byte(n)}) }

// numOf is a number's form, by numbers of any size.
func numOf(n uint64) []byte {
	b := new(big.Int).SetUint64(n).Bytes()
	return append([]byte{byte(len(b))}, b...)
}

// formOf is a form by the document's words.
func formOf(e api.Entry) []byte {
	b := append(numOf(uint64(e.Kind)), numOf(uint64(e.Shard))...)
	b = append(b, e.Tx[:]...)
	b = append(b, numOf(e.Amount)...)
	b = append(b, numOf(uint64(e.Why))...)
	return append(b, numOf(uint64(e.Epoch))...)
}

// right tells what Right has to, by the document's words.
func right(e api.Entry) bool {
	switch {
	case e.Kind != 1 && e.Kind != 2 && e.Kind != 3:
		return false
	case e.Shard <= -1 || e.Shard >= 64:
		return false
	case e.Amount >= top+1:
		return false
	case e.Why <= -1 || e.Why >= 64:
		return false
	}
	return e.Epoch >= 0 && e.Epoch < epochs+1
}

// check holds all calls on one entry against the document's words.
func check(t *testing.T, what string, e api.Entry) {
	t.Helper()
	ok, b := right(e), []byte(nil)
	if ok {
		b = formOf(e)
	}
	if got := Right(e); got != ok {
		t.Fatalf("%s: %v is right: %v", what, e, got)
	}
	if got, want := Decides(e), ok && e.Kind != 3; got != want {
		t.Fatalf("%s: %v decides: %v", what, e, got)
	}
	if got, gotOk := Put(e); gotOk != ok || !bytes.Equal(got, b) {
		t.Fatalf("%s: %v is put as % x, %v, not % x, %v", what, e, got, gotOk, b, ok)
	}
	if !ok {
		return
	}
	if got, x := Read(b); x != api.OK || got != e {
		t.Fatalf("%s: %v is read as %v, %v", what, e, got, x)
	}
}

// plain is an entry of no edge.
func plain() api.Entry {
	return api.Entry{Kind: 2, Shard: 5, Tx: digest(1), Amount: 300, Why: 13, Epoch: 70000}
}

// with answers the plain entry, to which something was done.
func with(turn func(e *api.Entry)) api.Entry {
	e := plain()
	turn(&e)
	return e
}

// outsideInts are whole numbers that are in no field's bounds, among them such
// as would be within if they lost their sign, or their high bits.
func outsideInts() []int {
	return []int{-1, -2, -63, -64, -256, -255, -1 << 32, -1<<32 + 1, math.MinInt, math.MinInt + 1, epochs + 1, epochs + 2,
		epochs * 2, epochs*256 + 1, 1<<62 + 1, math.MaxInt - 1, math.MaxInt}
}

// P9.1: Right, Put, Decides

func TestOrdinaryEntriesOfEachKind(t *testing.T) {
	for _, c := range []struct {
		kind    int
		right   bool
		decides bool
	}{
		{math.MinInt, false, false}, {-1, false, false}, {0, false, false},
		{1, true, true}, {2, true, true}, {3, true, false},
		{4, false, false}, {5, false, false}, {256, false, false}, {257, false, false}, {1<<32 + 1, false, false}, {math.MaxInt, false, false},
	} {
		for n := range 20 {
			e := api.Entry{Kind: c.kind, Shard: n, Tx: digest(n), Amount: uint64(n * n * n), Why: 2 * n, Epoch: n * 1000}
			if Right(e) != c.right || Decides(e) != c.decides {
				t.Errorf("%v is right: %v, decides: %v", e, Right(e), Decides(e))
			}
			if b, ok := Put(e); ok != c.right || !ok && len(b) > 0 {
				t.Errorf("%v is put as % x, %v", e, b, ok)
			}
			check(t, "a kind", e)
		}
	}
	if api.EAccept != 1 || api.EReject != 2 || api.EDone != 3 {
		t.Error("other kinds")
	}
}

func TestEntriesAtTheirEdges(t *testing.T) {
	for _, c := range []struct {
		what string
		turn func(e *api.Entry)
		want bool
	}{
		{"nothing turned", func(e *api.Entry) {}, true},
		{"kind 0", func(e *api.Entry) { e.Kind = 0 }, false},
		{"kind 1", func(e *api.Entry) { e.Kind = 1 }, true},
		{"kind 3", func(e *api.Entry) { e.Kind = 3 }, true},
		{"kind 4", func(e *api.Entry) { e.Kind = 4 }, false},
		{"shard -1", func(e *api.Entry) { e.Shard = -1 }, false},
		{"shard 0", func(e *api.Entry) { e.Shard = 0 }, true},
		{"shard 16", func(e *api.Entry) { e.Shard = 16 }, true},
		{"shard 63", func(e *api.Entry) { e.Shard = 63 }, true},
		{"shard 64", func(e *api.Entry) { e.Shard = 64 }, false},
		{"amount 0", func(e *api.Entry) { e.Amount = 0 }, true},
		{"the greatest amount", func(e *api.Entry) { e.Amount = top }, true},
		{"one more", func(e *api.Entry) { e.Amount = top + 1 }, false},
		{"an amount of 2^63", func(e *api.Entry) { e.Amount = 1 << 63 }, false},
		{"an amount of all bits", func(e *api.Entry) { e.Amount = most }, false},
		{"why -1", func(e *api.Entry) { e.Why = -1 }, false},
		{"why 0", func(e *api.Entry) { e.Why = 0 }, true},
		{"why 63", func(e *api.Entry) { e.Why = 63 }, true},
		{"why 64", func(e *api.Entry) { e.Why = 64 }, false},
		{"epoch -1", func(e *api.Entry) { e.Epoch = -1 }, false},
		{"epoch 0", func(e *api.Entry) { e.Epoch = 0 }, true},
		{"the greatest epoch", func(e *api.Entry) { e.Epoch = epochs }, true},
		{"an epoch more", func(e *api.Entry) { e.Epoch = epochs + 1 }, false},
		{"a digest of zeros", func(e *api.Entry) { e.Tx = api.Id{} }, true},
		{"the least of all", func(e *api.Entry) { *e = api.Entry{Kind: 1} }, true},
		{"the zero entry", func(e *api.Entry) { *e = api.Entry{} }, false},
		{"the greatest of all", func(e *api.Entry) { *e = api.Entry{Kind: 3, Shard: 63, Amount: top, Why: 63, Epoch: epochs} }, true},
		{"one less of all", func(e *api.Entry) { *e = api.Entry{Kind: 0, Shard: -1, Why: -1, Epoch: -1} }, false},
		{"one more of all", func(e *api.Entry) { *e = api.Entry{Kind: 4, Shard: 64, Amount: top + 1, Why: 64, Epoch: epochs + 1} }, false},
	} {
		for kind := 1; kind <= 3; kind++ {
			e := api.Entry{Kind: kind, Shard: 5, Tx: digest(1), Amount: 300, Why: 13, Epoch: 70000}
			c.turn(&e)
			if got := Right(e); got != c.want {
				t.Errorf("%s: right: %v", c.what, got)
			}
			check(t, c.what, e)
		}
	}
}

func TestEntriesOutside(t *testing.T) {
	for _, n := range outsideInts() {
		for _, turn := range []func(e *api.Entry){
			func(e *api.Entry) { e.Kind = n },
			func(e *api.Entry) { e.Shard = n },
			func(e *api.Entry) { e.Why = n },
			func(e *api.Entry) { e.Epoch = n },
		} {
			e := with(turn)
			if Right(e) || Decides(e) {
				t.Errorf("%v is right, or decides", e)
			}
			if b, ok := Put(e); ok || len(b) > 0 {
				t.Errorf("%v is put as % x, %v", e, b, ok)
			}
		}
	}
}

func TestEveryNumberNearABound(t *testing.T) {
	for n := -80; n < 330; n++ {
		check(t, "a kind", with(func(e *api.Entry) { e.Kind = n }))
		check(t, "a shard", with(func(e *api.Entry) { e.Shard = n }))
		check(t, "a reason", with(func(e *api.Entry) { e.Why = n }))
		for _, by := range []int{0, 256, 1 << 16, 1 << 32, epochs, -epochs} {
			check(t, "an epoch", with(func(e *api.Entry) { e.Epoch = by + n }))
		}
		for _, by := range []uint64{0, 1 << 32, top, 1 << 63} {
			check(t, "an amount", with(func(e *api.Entry) { e.Amount = by + uint64(n) }))
		}
	}
}

// edges calls do with all entries whose numbers are at their edges.
func edges(do func(e api.Entry)) {
	for _, kind := range []int{-1, 0, 1, 2, 3, 4} {
		for _, shard := range []int{-1, 0, 1, 16, 63, 64} {
			for _, amount := range []uint64{0, 1, 255, 256, top - 1, top, top + 1, most} {
				for _, why := range []int{-1, 0, 1, 63, 64} {
					for _, epoch := range []int{-1, 0, 1, 255, 256, epochs - 1, epochs, epochs + 1} {
						do(api.Entry{Kind: kind, Shard: shard, Tx: digest(kind), Amount: amount, Why: why, Epoch: epoch})
					}
				}
			}
		}
	}
}

func TestAllEdgesTogether(t *testing.T) {
	edges(func(e api.Entry) { check(t, "edges", e) })
}

func TestPutByHand(t *testing.T) {
	d, zeros := digest(1), api.Id{}
	for _, c := range []struct {
		e    api.Entry
		want string
	}{
		{plain(), "\x01\x02" + "\x01\x05" + string(d[:]) + "\x02\x01\x2c" + "\x01\x0d" + "\x03\x01\x11\x70"},
		{api.Entry{Kind: 1}, "\x01\x01" + "\x00" + string(zeros[:]) + "\x00" + "\x00" + "\x00"},
		{api.Entry{Kind: 3, Shard: 63, Tx: d, Amount: top, Why: 63, Epoch: epochs},
			"\x01\x03" + "\x01\x3f" + string(d[:]) + "\x08\x40\x00\x00\x00\x00\x00\x00\x00" + "\x01\x3f" + "\x06\x01\x00\x00\x00\x00\x00"},
		{api.Entry{Kind: 2, Amount: top - 1, Epoch: epochs - 1},
			"\x01\x02" + "\x00" + string(zeros[:]) + "\x08\x3f\xff\xff\xff\xff\xff\xff\xff" + "\x00" + "\x05\xff\xff\xff\xff\xff"},
	} {
		if got, ok := Put(c.e); !ok || string(got) != c.want {
			t.Errorf("%v is put as % x, %v, not % x", c.e, got, ok, c.want)
		}
		if got, x := Read([]byte(c.want)); x != api.OK || got != c.e {
			t.Errorf("% x is read as %v, %v, not %v", c.want, got, x, c.e)
		}
	}
}

// P9.2

func TestTwoHaveOneFormJustIfTheyAreTheSame(t *testing.T) {
	seen, count := map[string]api.Entry{}, 0
	meet := func(e api.Entry) {
		b, ok := Put(e)
		if !ok {
			return
		}
		count++
		if other, met := seen[string(b)]; met && other != e {
			t.Fatalf("%v and %v have one form", e, other)
		}
		seen[string(b)] = e
	}
	edges(func(e api.Entry) {
		meet(e)
		e.Tx = api.Id{}
		meet(e)
	})
	meet(plain())
	for bit := range 256 {
		meet(with(func(e *api.Entry) { e.Tx[bit/8] ^= 1 << (bit % 8) }))
	}
	// Each of these was met once: none is another one's.
	if want := 2*3*4*6*3*6 + 1 + 256; count != want || len(seen) != want {
		t.Errorf("%d entries with %d forms, not %d", count, len(seen), want)
	}
}

func TestWhatIsPutIsReadAsItWas(t *testing.T) {
	for n := range 5000 {
		e := api.Entry{
			Kind:   1 + n%3,
			Shard:  n % 64,
			Tx:     digest(n),
			Amount: top / (1 + uint64(n*n*n)),
			Why:    n / 3 % 64,
			Epoch:  epochs / (1 + n*n),
		}
		b, ok := Put(e)
		if !ok {
			t.Fatalf("%v isn't put", e)
		}
		if got, x := Read(b); x != api.OK || got != e {
			t.Fatalf("%v is read as %v, %v", e, got, x)
		}
	}
}

// What is answered may be written over, and nothing else changes by it.
func TestPutSharesNoMemory(t *testing.T) {
	want := formOf(plain())
	a, _ := Put(plain())
	b, _ := Put(plain())
	for i := range a {
		a[i] = 0xee
	}
	_ = append(a, 0xee)
	if !bytes.Equal(b, want) {
		t.Errorf("% x, not % x", b, want)
	}
	if c, _ := Put(plain()); !bytes.Equal(c, want) {
		t.Errorf("% x, not % x", c, want)
	}
}

func TestTheSameCallHasTheSameAnswer(t *testing.T) {
	bad := with(func(e *api.Entry) { e.Why = 64 })
	for range 3 {
		check(t, "plain", plain())
		check(t, "bad", bad)
		if _, x := Read(formOf(bad)); x != api.ErrRange {
			t.Error(x)
		}
	}
}
