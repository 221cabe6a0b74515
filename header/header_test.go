package header

import (
	"bytes"
	"crypto/sha256"
	"encoding/binary"
	"math"
	"math/big"
	"testing"

	"seisin/api"
)

const (
	top  = uint64(1) << 62
	most = uint64(math.MaxUint64)
	// highest is the greatest height, and the greatest epoch.
	highest = 1 << 40
)

func digest(n int) api.Id { return sha256.Sum256([]byte{byte(n >> 8), byte(n)}) }

// under is a digest under a mark, by the document's words.
func under(mark byte, lists ...[]byte) api.Id {
	b := []byte{mark}
	for _, l := range lists {
		b = append(binary.BigEndian.AppendUint32(b, uint32(len(l))), l...)
	}
	return sha256.Sum256(b)
}

// numOf is a number's form, by numbers of any size.
func numOf(n uint64) []byte {
	b := new(big.Int).SetUint64(n).Bytes()
	return append([]byte{byte(len(b))}, b...)
}

// formOf is a header's form, by the document's words.
func formOf(h api.Header) []byte {
	b := append(numOf(uint64(h.Shard)), numOf(uint64(h.Height))...)
	b = append(b, numOf(uint64(h.Epoch))...)
	b = append(b, h.Prev[:]...)
	return append(b, h.Root[:]...)
}

// right tells what Right has to, by the document's words.
func right(h api.Header) bool {
	switch {
	case h.Shard <= -1 || h.Shard >= 64:
		return false
	case h.Height <= 0 || h.Height >= highest+1:
		return false
	}
	return h.Epoch > -1 && h.Epoch < highest+1
}

// idOf is a header's digest, by the document's words.
func idOf(h api.Header) api.Id {
	if !right(h) {
		return api.Id{}
	}
	return under(11, formOf(h))
}

// check holds all calls on one header against the document's words.
func check(t *testing.T, what string, h api.Header) {
	t.Helper()
	ok, b := right(h), []byte(nil)
	if ok {
		b = formOf(h)
	}
	if got := Right(h); got != ok {
		t.Fatalf("%s: %v is right: %v", what, h, got)
	}
	if got, gotOk := Put(h); gotOk != ok || !bytes.Equal(got, b) {
		t.Fatalf("%s: %v is put as % x, %v, not % x, %v", what, h, got, gotOk, b, ok)
	}
	if got, want := Id(h), idOf(h); got != want {
		t.Fatalf("%s: the digest of %v is %x, not %x", what, h, got, want)
	}
	if !ok {
		return
	}
	if got, x := Read(b); x != api.OK || got != h {
		t.Fatalf("%s: %v is read as %v, %v", what, h, got, x)
	}
}

// plain is a header of no edge.
func plain() api.Header {
	return api.Header{Shard: 5, Height: 300, Epoch: 70000, Prev: digest(1), Root: digest(2)}
}

// with answers the plain header, to which something was done.
func with(turn func(h *api.Header)) api.Header {
	h := plain()
	turn(&h)
	return h
}

// outsideInts are whole numbers that are in no field's bounds, among them such
// as would be within if they lost their sign, or their high bits.
func outsideInts() []int {
	return []int{-1, -2, -63, -64, -256, -255, -1 << 32, -1<<32 + 1, math.MinInt, math.MinInt + 1, highest + 1, highest + 2,
		highest * 2, highest*256 + 1, 1<<62 + 1, math.MaxInt - 1, math.MaxInt}
}

// edges calls do with all headers whose numbers are at their edges.
func edges(do func(h api.Header)) {
	for _, shard := range []int{-1, 0, 1, 15, 16, 63, 64} {
		for _, height := range []int{-1, 0, 1, 2, 255, 256, highest - 1, highest, highest + 1} {
			for _, epoch := range []int{-1, 0, 1, 255, 256, highest - 1, highest, highest + 1} {
				do(api.Header{Shard: shard, Height: height, Epoch: epoch, Prev: digest(1), Root: digest(2)})
			}
		}
	}
}

// P10.1: Right, Put, Id

func TestOrdinaryHeaders(t *testing.T) {
	for n := range 2000 {
		h := api.Header{Shard: n % 64, Height: n + 1, Epoch: n * 1000, Prev: digest(n), Root: digest(n + 1)}
		if !Right(h) {
			t.Errorf("%v isn't right", h)
		}
		if _, ok := Put(h); !ok {
			t.Errorf("%v isn't put", h)
		}
		if Id(h) == (api.Id{}) {
			t.Errorf("%v has no digest", h)
		}
		check(t, "ordinary", h)
	}
}

func TestHeadersAtTheirEdges(t *testing.T) {
	for _, c := range []struct {
		what string
		turn func(h *api.Header)
		want bool
	}{
		{"nothing turned", func(h *api.Header) {}, true},
		{"shard -1", func(h *api.Header) { h.Shard = -1 }, false},
		{"shard 0", func(h *api.Header) { h.Shard = 0 }, true},
		{"shard 16", func(h *api.Header) { h.Shard = 16 }, true},
		{"shard 63", func(h *api.Header) { h.Shard = 63 }, true},
		{"shard 64", func(h *api.Header) { h.Shard = 64 }, false},
		{"height -1", func(h *api.Header) { h.Height = -1 }, false},
		{"height 0", func(h *api.Header) { h.Height = 0 }, false},
		{"height 1", func(h *api.Header) { h.Height = 1 }, true},
		{"height 1 and zeros ahead", func(h *api.Header) { h.Height, h.Prev = 1, api.Id{} }, true},
		{"the greatest height", func(h *api.Header) { h.Height = highest }, true},
		{"one more", func(h *api.Header) { h.Height = highest + 1 }, false},
		{"epoch -1", func(h *api.Header) { h.Epoch = -1 }, false},
		{"epoch 0", func(h *api.Header) { h.Epoch = 0 }, true},
		{"the greatest epoch", func(h *api.Header) { h.Epoch = highest }, true},
		{"an epoch more", func(h *api.Header) { h.Epoch = highest + 1 }, false},
		{"zeros ahead", func(h *api.Header) { h.Prev = api.Id{} }, true},
		{"a root of zeros", func(h *api.Header) { h.Root = api.Id{} }, true},
		{"the least of all", func(h *api.Header) { *h = api.Header{Height: 1} }, true},
		{"the zero header", func(h *api.Header) { *h = api.Header{} }, false},
		{"the greatest of all", func(h *api.Header) { *h = api.Header{Shard: 63, Height: highest, Epoch: highest} }, true},
		{"one less of all", func(h *api.Header) { *h = api.Header{Shard: -1, Height: 0, Epoch: -1} }, false},
		{"one more of all", func(h *api.Header) { *h = api.Header{Shard: 64, Height: highest + 1, Epoch: highest + 1} }, false},
	} {
		h := with(c.turn)
		if got := Right(h); got != c.want {
			t.Errorf("%s: right: %v", c.what, got)
		}
		if b, ok := Put(h); ok != c.want || !ok && len(b) > 0 {
			t.Errorf("%s: put as % x, %v", c.what, b, ok)
		}
		if got := Id(h) != (api.Id{}); got != c.want {
			t.Errorf("%s: a digest: %v", c.what, got)
		}
		check(t, c.what, h)
	}
	if api.MaxEpoch != highest || api.MarkHead != 11 || api.Leaves != 3 {
		t.Error("other limits")
	}
}

func TestHeadersOutside(t *testing.T) {
	for _, n := range outsideInts() {
		for _, turn := range []func(h *api.Header){
			func(h *api.Header) { h.Shard = n },
			func(h *api.Header) { h.Height = n },
			func(h *api.Header) { h.Epoch = n },
		} {
			h := with(turn)
			if Right(h) || Id(h) != (api.Id{}) {
				t.Errorf("%v is right, or has a digest", h)
			}
			if b, ok := Put(h); ok || len(b) > 0 {
				t.Errorf("%v is put as % x, %v", h, b, ok)
			}
		}
	}
}

func TestEveryNumberNearABound(t *testing.T) {
	for n := -80; n < 330; n++ {
		check(t, "a shard", with(func(h *api.Header) { h.Shard = n }))
		for _, by := range []int{0, 256, 1 << 16, 1 << 32, highest, -highest} {
			check(t, "a height", with(func(h *api.Header) { h.Height = by + n }))
			check(t, "an epoch", with(func(h *api.Header) { h.Epoch = by + n }))
		}
	}
}

func TestAllEdgesTogether(t *testing.T) {
	edges(func(h api.Header) { check(t, "edges", h) })
}

func TestPutByHand(t *testing.T) {
	d, e, zeros := digest(1), digest(2), api.Id{}
	for _, c := range []struct {
		h    api.Header
		want string
	}{
		{plain(), "\x01\x05" + "\x02\x01\x2c" + "\x03\x01\x11\x70" + string(d[:]) + string(e[:])},
		{api.Header{Height: 1, Root: d}, "\x00" + "\x01\x01" + "\x00" + string(zeros[:]) + string(d[:])},
		{api.Header{Shard: 63, Height: highest, Epoch: highest, Prev: e},
			"\x01\x3f" + "\x06\x01\x00\x00\x00\x00\x00" + "\x06\x01\x00\x00\x00\x00\x00" + string(e[:]) + string(zeros[:])},
		{api.Header{Shard: 1, Height: highest - 1, Epoch: 256, Prev: d, Root: d},
			"\x01\x01" + "\x05\xff\xff\xff\xff\xff" + "\x02\x01\x00" + string(d[:]) + string(d[:])},
	} {
		if got, ok := Put(c.h); !ok || string(got) != c.want {
			t.Errorf("%v is put as % x, %v, not % x", c.h, got, ok, c.want)
		}
		if got, x := Read([]byte(c.want)); x != api.OK || got != c.h {
			t.Errorf("% x is read as %v, %v, not %v", c.want, got, x, c.h)
		}
		length := string([]byte{11, 0, 0, 0, byte(len(c.want))})
		if got, want := Id(c.h), api.Id(sha256.Sum256([]byte(length+c.want))); got != want {
			t.Errorf("the digest of %v is %x, not %x", c.h, got, want)
		}
	}
}

func TestWhatIsPutIsReadAsItWas(t *testing.T) {
	for n := range 5000 {
		h := api.Header{Shard: n % 64, Height: highest / (1 + n*n), Epoch: highest / (1 + n*n*n), Prev: digest(n), Root: digest(n / 2)}
		b, ok := Put(h)
		if !ok {
			t.Fatalf("%v isn't put", h)
		}
		if got, x := Read(b); x != api.OK || got != h {
			t.Fatalf("%v is read as %v, %v", h, got, x)
		}
	}
}

// What is answered may be written over, and nothing else changes by it.
func TestPutSharesNoMemory(t *testing.T) {
	want := formOf(plain())
	a, _ := Put(plain())
	b, _ := Put(plain())
	for i := range a {
		a[i] = 0xee
	}
	_ = append(a, 0xee)
	if !bytes.Equal(b, want) {
		t.Errorf("% x, not % x", b, want)
	}
	if c, _ := Put(plain()); !bytes.Equal(c, want) {
		t.Errorf("% x, not % x", c, want)
	}
}

func TestTheSameCallHasTheSameAnswer(t *testing.T) {
	bad := with(func(h *api.Header) { h.Shard = 64 })
	leaves := someLeaves(3)
	first, _ := Next(plain(), false, leaves, 0, 70000)
	for range 3 {
		check(t, "plain", plain())
		check(t, "bad", bad)
		if _, x := Read(formOf(bad)); x != api.ErrRange {
			t.Error(x)
		}
		if h, ok := Next(plain(), false, leaves, 0, 70000); !ok || h != first {
			t.Error(h, ok)
		}
	}
}
