package header

import (
	"testing"

	"seisin/api"
)

// followsBy tells what Follows has to, by the document's words.
func followsBy(a, b api.Header) bool {
	return right(a) && right(b) && a.Shard == b.Shard && b.Height-a.Height == 1 && b.Epoch >= a.Epoch && b.Prev == idOf(a)
}

func checkFollows(t *testing.T, a, b api.Header) bool {
	t.Helper()
	want := followsBy(a, b)
	if got := Follows(a, b); got != want {
		t.Fatalf("%v follows %v: %v", b, a, got)
	}
	return want
}

// after answers a header that follows another one, to which something was done.
func after(a api.Header, turn func(h *api.Header)) api.Header {
	h := api.Header{Shard: a.Shard, Height: a.Height + 1, Epoch: a.Epoch, Prev: idOf(a), Root: digest(a.Height)}
	turn(&h)
	return h
}

func asItIs(h *api.Header) {}

// turned are headers that are unlike another one in one thing each: all bits of
// its digests, and neighbours of its numbers.
func turned(h api.Header) []api.Header {
	var l []api.Header
	for bit := range 256 {
		a, b := h, h
		a.Prev[bit/8] ^= 1 << (bit % 8)
		b.Root[bit/8] ^= 1 << (bit % 8)
		l = append(l, a, b)
	}
	for _, by := range []int{-64, -2, -1, 1, 2, 64, 256} {
		a, b, c := h, h, h
		a.Shard += by
		b.Height += by
		c.Epoch += by
		l = append(l, a, b, c)
	}
	return l
}

// starts are right headers, first ones and others.
func starts() []api.Header {
	return []api.Header{
		{Height: 1}, {Shard: 63, Height: 1, Root: digest(5)}, plain(),
		{Shard: 63, Height: highest - 1, Epoch: highest, Prev: digest(7), Root: digest(8)},
		{Shard: 20, Height: 1 << 32, Epoch: highest - 1, Prev: digest(9), Root: digest(10)},
	}
}

// P10.1: Follows

func TestWhoFollows(t *testing.T) {
	for _, c := range []struct {
		what string
		turn func(h *api.Header)
		want bool
	}{
		{"nothing turned", asItIs, true},
		{"a greater epoch", func(h *api.Header) { h.Epoch++ }, true},
		{"the greatest epoch", func(h *api.Header) { h.Epoch = highest }, true},
		{"an epoch more", func(h *api.Header) { h.Epoch = highest + 1 }, false},
		{"a lesser epoch", func(h *api.Header) { h.Epoch-- }, false},
		{"epoch 0", func(h *api.Header) { h.Epoch = 0 }, false},
		{"epoch -1", func(h *api.Header) { h.Epoch = -1 }, false},
		{"another root", func(h *api.Header) { h.Root = digest(99) }, true},
		{"a root of zeros", func(h *api.Header) { h.Root = api.Id{} }, true},
		{"the shard ahead", func(h *api.Header) { h.Shard-- }, false},
		{"the shard behind", func(h *api.Header) { h.Shard++ }, false},
		{"shard 0", func(h *api.Header) { h.Shard = 0 }, false},
		{"shard 64", func(h *api.Header) { h.Shard = 64 }, false},
		{"the same height", func(h *api.Header) { h.Height-- }, false},
		{"a height too many", func(h *api.Header) { h.Height++ }, false},
		{"height 1", func(h *api.Header) { h.Height = 1 }, false},
		{"height 0", func(h *api.Header) { h.Height = 0 }, false},
		{"zeros ahead", func(h *api.Header) { h.Prev = api.Id{} }, false},
		{"another digest ahead", func(h *api.Header) { h.Prev = digest(98) }, false},
		{"the digest of the bytes alone", func(h *api.Header) { h.Prev = under(8, formOf(plain())) }, false},
		{"what stands ahead of that one", func(h *api.Header) { h.Prev = plain().Prev }, false},
	} {
		if got := checkFollows(t, plain(), after(plain(), c.turn)); got != c.want {
			t.Errorf("%s: %v", c.what, got)
		}
	}
}

func TestNoneFollowsItselfOrTheOneBehind(t *testing.T) {
	for _, a := range starts() {
		b := after(a, asItIs)
		if !checkFollows(t, a, b) || checkFollows(t, b, a) || checkFollows(t, a, a) || checkFollows(t, b, b) {
			t.Errorf("%v and %v", a, b)
		}
		if checkFollows(t, a, after(b, asItIs)) {
			t.Errorf("the next but one follows %v", a)
		}
	}
}

func TestFollowsAtTheGreatestHeight(t *testing.T) {
	last := with(func(h *api.Header) { h.Height = highest })
	if !checkFollows(t, with(func(h *api.Header) { h.Height = highest - 1 }), after(with(func(h *api.Header) { h.Height = highest - 1 }), asItIs)) {
		t.Error("the greatest height follows none")
	}
	if checkFollows(t, last, after(last, asItIs)) {
		t.Error("a height above the greatest")
	}
}

// What isn't right follows none, and is followed by none: not by zeros ahead
// either, which are its digest.
func TestFollowsOfWrongHeaders(t *testing.T) {
	for _, wrong := range wrongHeaders() {
		for _, h := range []api.Header{after(wrong, asItIs), after(wrong, func(h *api.Header) { h.Prev = api.Id{} }), plain()} {
			if checkFollows(t, wrong, h) || checkFollows(t, h, wrong) {
				t.Errorf("%v and %v", wrong, h)
			}
		}
	}
	zero := api.Header{}
	if checkFollows(t, zero, api.Header{Height: 1}) {
		t.Error("the first one follows the zero header")
	}
	if checkFollows(t, zero, zero) {
		t.Error("the zero header follows itself")
	}
}

func TestFollowsOfAllEdges(t *testing.T) {
	edges(func(a api.Header) {
		edges(func(b api.Header) {
			checkFollows(t, a, b)
			b.Prev = idOf(a)
			checkFollows(t, a, b)
		})
	})
}

func TestAChainOfBlocks(t *testing.T) {
	h, ok := Next(api.Header{}, true, someLeaves(3), 7, 0)
	if !ok || h.Prev != (api.Id{}) || h.Height != 1 {
		t.Fatalf("%v, %v", h, ok)
	}
	chain := []api.Header{h}
	for n := range 120 {
		e := api.Entry{Kind: 1 + n%3, Shard: 7, Tx: digest(n), Amount: uint64(n), Epoch: n / 5}
		l, ok := Leaves([]byte{byte(n)}, e, uint64(n*n))
		if !ok {
			t.Fatal("no leaves")
		}
		h, ok = checkNext(t, h, false, l, 0, n/5)
		if !ok || h.Height != n+2 || h.Shard != 7 {
			t.Fatalf("%v, %v", h, ok)
		}
		chain = append(chain, h)
	}
	for i, a := range chain {
		for j, b := range chain {
			if got := checkFollows(t, a, b); got != (j == i+1) {
				t.Errorf("the header at %d follows that at %d: %v", j, i, got)
			}
		}
	}
}

// P10.2

func TestWhoeverFollowsAHeaderFollowsNoOtherOne(t *testing.T) {
	for _, a := range starts() {
		b, ok := Next(a, false, someLeaves(3), 0, highest)
		if !ok || !Follows(a, b) {
			t.Fatalf("%v doesn't follow %v", b, a)
		}
		for _, other := range turned(a) {
			if checkFollows(t, other, b) {
				t.Errorf("%v follows %v and %v", b, a, other)
			}
		}
	}
}

// No two headers have one digest.
func TestEachHeaderHasADigestOfItsOwn(t *testing.T) {
	seen, count := map[api.Id]api.Header{}, 0
	meet := func(h api.Header) {
		if !Right(h) {
			return
		}
		count++
		if other, met := seen[Id(h)]; met && other != h {
			t.Fatalf("%v and %v have one digest", h, other)
		}
		seen[Id(h)] = h
	}
	edges(meet)
	meet(plain())
	for _, h := range turned(plain()) {
		meet(h)
	}
	if len(seen) != count || count < 700 {
		t.Errorf("%d headers with %d digests", count, len(seen))
	}
	if _, met := seen[api.Id{}]; met {
		t.Error("zeros are a digest")
	}
}
