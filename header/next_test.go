package header

import (
	"bytes"
	"math"
	"testing"

	"seisin/api"
)

// someLeaves are n leaves, no two alike.
func someLeaves(n int) [][]byte {
	l := make([][]byte, n)
	for i := range l {
		l[i] = bytes.Repeat([]byte{byte(i), byte(n)}, i*20)
	}
	return l
}

// rootOf is the root of three leaves, by the document's words.
func rootOf(l [][]byte) api.Id {
	a, b, c := under(1, l[0]), under(1, l[1]), under(1, l[2])
	ab := under(2, a[:], b[:])
	return under(2, ab[:], c[:])
}

// nextBy tells what Next has to, by the document's words.
func nextBy(prev api.Header, first bool, leaves [][]byte, shard, epoch int) (api.Header, bool) {
	if len(leaves) != 3 {
		return api.Header{}, false
	}
	h := api.Header{Epoch: epoch, Root: rootOf(leaves)}
	switch {
	case first:
		h.Shard, h.Height = shard, 1
	case !right(prev) || prev.Height == highest || epoch < prev.Epoch:
		return api.Header{}, false
	default:
		h.Shard, h.Height, h.Prev = prev.Shard, prev.Height+1, idOf(prev)
	}
	if !right(h) {
		return api.Header{}, false
	}
	return h, true
}

// checkNext holds a next header against the document's words; it answers it.
func checkNext(t *testing.T, prev api.Header, first bool, leaves [][]byte, shard, epoch int) (api.Header, bool) {
	t.Helper()
	want, ok := nextBy(prev, first, leaves, shard, epoch)
	got, gotOk := Next(prev, first, leaves, shard, epoch)
	if got != want || gotOk != ok {
		t.Fatalf("next of %v, %v, %d leaves, shard %d, epoch %d: %v, %v, not %v, %v", prev, first, len(leaves), shard, epoch, got, gotOk, want, ok)
	}
	if !ok {
		return got, false
	}
	if !Right(got) || !first && !Follows(prev, got) {
		t.Fatalf("%v isn't right, or doesn't follow %v", got, prev)
	}
	return got, true
}

// wrongHeaders are such as aren't right, each by one number.
func wrongHeaders() []api.Header {
	l := []api.Header{{}, {Height: 0, Root: digest(1)}, with(func(h *api.Header) { h.Height = 0 }),
		with(func(h *api.Header) { h.Shard = 64 })}
	for _, n := range outsideInts() {
		l = append(l, with(func(h *api.Header) { h.Shard = n }), with(func(h *api.Header) { h.Height = n }), with(func(h *api.Header) { h.Epoch = n }))
	}
	return l
}

// P10.1: Next

// The document's example.
func TestTheFirstHeader(t *testing.T) {
	l := someLeaves(3)
	h, ok := Next(api.Header{}, true, l, 1, 4)
	if want := (api.Header{Shard: 1, Height: 1, Epoch: 4, Prev: api.Id{}, Root: rootOf(l)}); !ok || h != want {
		t.Fatalf("%v, %v, not %v", h, ok, want)
	}
	for _, c := range []struct {
		shard, epoch int
		want         bool
	}{
		{-1, 0, false}, {0, 0, true}, {16, 0, true}, {63, 0, true}, {64, 0, false},
		{0, -1, false}, {0, 1, true}, {0, highest, true}, {0, highest + 1, false}, {63, highest, true},
		{-1, -1, false}, {64, highest + 1, false},
	} {
		if h, ok := checkNext(t, api.Header{}, true, l, c.shard, c.epoch); ok != c.want {
			t.Errorf("shard %d, epoch %d: %v, %v", c.shard, c.epoch, h, ok)
		}
	}
	for _, n := range outsideInts() {
		for _, c := range [][2]int{{n, 0}, {0, n}, {n, n}} {
			if h, ok := checkNext(t, api.Header{}, true, l, c[0], c[1]); ok {
				t.Errorf("shard %d, epoch %d: %v", c[0], c[1], h)
			}
		}
	}
}

// Of the first one the header ahead tells nothing, be it right or not.
func TestTheFirstHeaderLooksAtNoneAhead(t *testing.T) {
	l := someLeaves(3)
	want, _ := Next(api.Header{}, true, l, 9, 4)
	for _, prev := range append(wrongHeaders(), plain(), with(func(h *api.Header) { h.Height = highest }), with(func(h *api.Header) { h.Epoch = highest })) {
		if h, ok := checkNext(t, prev, true, l, 9, 4); !ok || h != want {
			t.Errorf("ahead %v: %v, %v", prev, h, ok)
		}
	}
}

func TestAHeaderBehindAnother(t *testing.T) {
	l := someLeaves(3)
	h, ok := Next(plain(), false, l, 5, 70001)
	if want := (api.Header{Shard: 5, Height: 301, Epoch: 70001, Prev: idOf(plain()), Root: rootOf(l)}); !ok || h != want {
		t.Fatalf("%v, %v, not %v", h, ok, want)
	}
	// The shard counts for the first one alone.
	for _, shard := range append(outsideInts(), 0, 1, 4, 6, 63, 64) {
		if other, ok := checkNext(t, plain(), false, l, shard, 70001); !ok || other != h {
			t.Errorf("shard %d: %v, %v", shard, other, ok)
		}
	}
}

func TestTheEpochBehindAnother(t *testing.T) {
	l := someLeaves(3)
	for _, ahead := range []int{0, 1, 300, highest - 1, highest} {
		prev := with(func(h *api.Header) { h.Epoch = ahead })
		for _, epoch := range append(outsideInts(), 0, ahead-2, ahead-1, ahead, ahead+1, ahead+2, highest-1, highest) {
			if h, ok := checkNext(t, prev, false, l, 0, epoch); ok != (epoch >= ahead && epoch <= highest) {
				t.Errorf("epoch %d behind %d: %v, %v", epoch, ahead, h, ok)
			}
		}
	}
}

func TestTheHeightBehindAnother(t *testing.T) {
	l := someLeaves(3)
	for _, c := range []struct {
		ahead int
		want  bool
	}{
		{math.MinInt, false}, {-2, false}, {-1, false}, {0, false}, {1, true}, {2, true}, {255, true}, {highest - 2, true},
		{highest - 1, true}, {highest, false}, {highest + 1, false}, {math.MaxInt - 1, false}, {math.MaxInt, false},
	} {
		prev := with(func(h *api.Header) { h.Height = c.ahead })
		h, ok := checkNext(t, prev, false, l, 0, prev.Epoch)
		if ok != c.want || ok && h.Height != c.ahead+1 {
			t.Errorf("behind height %d: %v, %v", c.ahead, h, ok)
		}
	}
}

func TestBehindAHeaderThatIsntRight(t *testing.T) {
	l := someLeaves(3)
	for _, prev := range wrongHeaders() {
		for _, epoch := range []int{0, prev.Epoch, 70000, highest} {
			if h, ok := checkNext(t, prev, false, l, 5, epoch); ok {
				t.Errorf("behind %v: %v", prev, h)
			}
		}
	}
}

func TestNextOfOtherNumbersOfLeaves(t *testing.T) {
	for _, n := range []int{0, 1, 2, 4, 5, 6, 7, 8, 300} {
		for _, first := range []bool{true, false} {
			if h, ok := checkNext(t, plain(), first, someLeaves(n), 5, 70000); ok {
				t.Errorf("%d leaves: %v", n, h)
			}
		}
	}
	for _, first := range []bool{true, false} {
		if h, ok := checkNext(t, plain(), first, nil, 5, 70000); ok {
			t.Errorf("nil: %v", h)
		}
		if _, ok := checkNext(t, plain(), first, [][]byte{nil, {}, nil}, 5, 70000); !ok {
			t.Error("three leaves without bytes")
		}
		// Leaves that aren't a block's are taken too.
		if _, ok := checkNext(t, plain(), first, commands()[3:6], 5, 70000); !ok {
			t.Error("other leaves")
		}
	}
}

// What lies behind the leaves' length isn't read, and none is changed or kept.
func TestNextLeavesItsLeaves(t *testing.T) {
	l := someLeaves(6)
	was := someLeaves(6)
	for _, first := range []bool{true, false} {
		checkNext(t, plain(), first, l[:2], 5, 70000)
		if h, ok := checkNext(t, plain(), first, l[:3], 5, 70000); !ok || h.Root != rootOf(was[:3]) {
			t.Errorf("%v, %v", h, ok)
		}
	}
	for i := range l {
		if !bytes.Equal(l[i], was[i]) {
			t.Errorf("the leaf at %d has changed", i)
		}
	}
}

func TestNextOfAllEdges(t *testing.T) {
	edges(func(prev api.Header) {
		for _, first := range []bool{true, false} {
			for _, epoch := range []int{-1, 0, 1, 256, highest - 1, highest, highest + 1} {
				for n := 2; n <= 4; n++ {
					checkNext(t, prev, first, someLeaves(n), prev.Shard, epoch)
				}
			}
		}
	})
}

// Each leaf of a block, and where it stands, is told by its header.
func TestEachLeafIsToldByTheRoot(t *testing.T) {
	l, ok := Leaves([]byte("cmd"), plainEntry(), 300)
	if !ok {
		t.Fatal("no leaves")
	}
	h, _ := checkNext(t, plain(), false, l, 0, 70000)
	for i := range l {
		for j := range l[i] {
			l[i][j] ^= 1
			if other, ok := checkNext(t, plain(), false, l, 0, 70000); !ok || other == h {
				t.Errorf("the byte at %d of the leaf at %d isn't told: %v", j, i, ok)
			}
			l[i][j] ^= 1
		}
		other := [][]byte{l[(i+1)%3], l[i], l[(i+2)%3]}
		if got, ok := checkNext(t, plain(), false, other, 0, 70000); !ok || got.Root == h.Root {
			t.Errorf("leaves at other places: %v, %v", got, ok)
		}
	}
}
