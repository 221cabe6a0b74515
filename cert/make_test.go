package cert_test

import (
	"bytes"
	"slices"
	"testing"

	"seisin/api"
	"seisin/cert"
)

// makeBy makes a certificate by the document's words.
func makeBy(k keys, leaves [][]byte, e api.Entry, h api.Header) (api.Cert, bool) {
	if len(leaves) != 3 || !entryRight(e) || !bytes.Equal(leaves[1], entryOf(e)) {
		return api.Cert{}, false
	}
	c := block{leaves, e, h}.cert(k)
	if !rightBy(k, c) {
		return api.Cert{}, false
	}
	return c, true
}

// checkMake holds a making against makeBy; it answers whether there is one.
func checkMake(t *testing.T, what string, k keys, leaves [][]byte, e api.Entry, h api.Header) bool {
	t.Helper()
	want, ok := makeBy(k, leaves, e, h)
	got, gotOk := cert.Make(k.ring(), leaves, e, h)
	if gotOk != ok || got.E != want.E || got.H != want.H || got.Tag != want.Tag || !slices.Equal(got.Path, want.Path) {
		t.Fatalf("%s: %v, %v, not %v, %v", what, got, gotOk, want, ok)
	}
	if ok && !cert.Is(k.ring(), got) {
		t.Fatalf("%s: %v isn't right", what, got)
	}
	if c, ok := cert.Make(nil, leaves, e, h); ok || !cert.Same(c, api.Cert{}) {
		t.Fatalf("%s: %v, %v without a ring", what, c, ok)
	}
	return ok
}

// leavesWith answers the plain block's leaves, of which that at a place is another one.
func leavesWith(at int, leaf []byte) [][]byte {
	l := plainBlock().leaves
	l[at] = leaf
	return l
}

// P11.1: Make

func TestMakeOfBlocks(t *testing.T) {
	for _, b := range blocks() {
		for _, k := range []keys{all, {all.seed, b.h.Shard + 1}, {"", 64}, {"another seed", 64}} {
			if !checkMake(t, "a block", k, b.leaves, b.e, b.h) {
				t.Errorf("no certificate of %v", b.h)
			}
		}
	}
}

func TestMakeByHand(t *testing.T) {
	b := plainBlock()
	c, ok := cert.Make(all.ring(), b.leaves, b.e, b.h)
	first, last := leafOf([]byte("lock")), leafOf([]byte("\x02\x03\xe8"))
	if !ok || c.E != plainEntry() || c.H != b.h || !slices.Equal(c.Path, []api.Id{first, last}) {
		t.Fatalf("%v, %v", c, ok)
	}
	key := macOf([]byte("seed"), []byte{5})
	if want := macOf(key[:], headerOf(b.h)); c.Tag != want {
		t.Errorf("the tag is %x, not %x", c.Tag, want)
	}
}

func TestMakeWithoutAKey(t *testing.T) {
	for _, b := range blocks() {
		if c, ok := cert.Make(nil, b.leaves, b.e, b.h); ok || !cert.Same(c, api.Cert{}) {
			t.Errorf("without a ring: %v", c)
		}
		for shards := 1; shards <= b.h.Shard; shards++ {
			if checkMake(t, "fewer shards", keys{all.seed, shards}, b.leaves, b.e, b.h) {
				t.Errorf("shard %d of %d", b.h.Shard, shards)
			}
		}
	}
}

// Each header is the root of just these leaves, as many as they are.
func TestMakeOfLeavesThatArentThree(t *testing.T) {
	b := plainBlock()
	x, e, y := b.leaves[0], b.leaves[1], b.leaves[2]
	lx, le, ly := leafOf(x), leafOf(e), leafOf(y)
	for _, c := range []struct {
		what   string
		leaves [][]byte
		root   api.Id
	}{
		{"nil", nil, under(0)},
		{"none", [][]byte{}, under(0)},
		{"the entry alone", [][]byte{e}, le},
		{"one", [][]byte{x}, lx},
		{"two", [][]byte{x, e}, nodeOf(lx, le)},
		{"two, and the root of three", [][]byte{x, e}, b.h.Root},
		{"four", [][]byte{x, e, y, x}, nodeOf(nodeOf(lx, le), nodeOf(ly, lx))},
		{"four, and the root of three", [][]byte{x, e, y, nil}, b.h.Root},
		{"five", [][]byte{x, e, y, x, y}, nodeOf(nodeOf(nodeOf(lx, le), nodeOf(ly, lx)), ly)},
		{"the three, twice", [][]byte{x, e, y, x, e, y}, nodeOf(nodeOf(nodeOf(lx, le), nodeOf(ly, lx)), nodeOf(le, ly))},
		{"many, and the root of three", slices.Repeat([][]byte{x, e, y}, 3000), b.h.Root},
	} {
		h := b.h
		h.Root = c.root
		if checkMake(t, c.what, all, c.leaves, b.e, h) {
			t.Errorf("%s: a certificate", c.what)
		}
	}
}

// The header is that of the leaves with the entry, and that of the leaves as
// they are.
func TestMakeOfAnotherSecondLeaf(t *testing.T) {
	form := entryOf(plainEntry())
	other := plainEntry()
	other.Amount++
	for _, leaf := range [][]byte{
		nil, {}, form[:len(form)-1], append(bytes.Clone(form), 0), entryOf(other), textOf(form), []byte("lock"), numOf(1000),
	} {
		b := plainBlock()
		l := leavesWith(1, leaf)
		if checkMake(t, "another leaf, the entry's root", all, l, b.e, b.h) {
			t.Errorf("%x: a certificate", leaf)
		}
		b.h.Root = rootOf(l)
		if checkMake(t, "another leaf, its root", all, l, b.e, b.h) {
			t.Errorf("%x: a certificate", leaf)
		}
	}
	for bit := range 8 * len(form) {
		leaf := bytes.Clone(form)
		leaf[bit/8] ^= 1 << (bit % 8)
		if checkMake(t, "a bit of the leaf", all, leavesWith(1, leaf), plainEntry(), plainBlock().h) {
			t.Errorf("the bit at %d of the leaf isn't looked at", bit)
		}
	}
}

func TestMakeWithTheEntryElsewhere(t *testing.T) {
	b := plainBlock()
	x, e, y := b.leaves[0], b.leaves[1], b.leaves[2]
	for _, l := range [][][]byte{{e, x, y}, {x, y, e}, {e, y, x}, {y, x, e}} {
		h := b.h
		if checkMake(t, "elsewhere", all, l, b.e, h) {
			t.Errorf("%q: a certificate", l)
		}
		h.Root = rootOf(l)
		if checkMake(t, "elsewhere, and their root", all, l, b.e, h) {
			t.Errorf("%q: a certificate", l)
		}
	}
}

// The leaves aren't those of the header.
func TestMakeOfOtherLeavesThanTheHeaders(t *testing.T) {
	b := plainBlock()
	for _, l := range [][][]byte{
		leavesWith(0, []byte("mint")), leavesWith(0, nil), leavesWith(2, numOf(1001)), leavesWith(2, nil), {b.leaves[2], b.leaves[1], b.leaves[0]},
	} {
		if checkMake(t, "other leaves", all, l, b.e, b.h) {
			t.Errorf("%q: a certificate", l)
		}
	}
	for bit := range 256 {
		h := b.h
		h.Root = flipped(h.Root, bit)
		if checkMake(t, "another root", all, b.leaves, b.e, h) {
			t.Errorf("the bit at %d of the root isn't looked at", bit)
		}
	}
}

func TestMakeOfAnotherEntry(t *testing.T) {
	b := plainBlock()
	for _, turn := range []func(e *api.Entry){
		func(e *api.Entry) { *e = api.Entry{} },
		func(e *api.Entry) { e.Kind = 2 },
		func(e *api.Entry) { e.Shard = 4 },
		func(e *api.Entry) { e.Tx = flipped(e.Tx, 200) },
		func(e *api.Entry) { e.Amount-- },
		func(e *api.Entry) { e.Why++ },
		func(e *api.Entry) { e.Epoch++ },
	} {
		e := b.e
		turn(&e)
		if checkMake(t, "another entry", all, b.leaves, e, b.h) {
			t.Errorf("%v: a certificate", e)
		}
	}
}

// The leaf is the entry's, the root is the leaves', but the header isn't of the
// entry's shard, or epoch.
func TestMakeOfHeadersOfAnotherShardOrEpoch(t *testing.T) {
	b := plainBlock()
	for shard := range 64 {
		h := b.h
		h.Shard = shard
		if got := checkMake(t, "a header's shard", all, b.leaves, b.e, h); got != (shard == 5) {
			t.Errorf("a header of shard %d: %v", shard, got)
		}
	}
	for _, epoch := range []int{0, 69999, 70000, 70001, highest} {
		h := b.h
		h.Epoch = epoch
		if got := checkMake(t, "a header's epoch", all, b.leaves, b.e, h); got != (epoch == 70000) {
			t.Errorf("a header of epoch %d: %v", epoch, got)
		}
	}
	// The height, and what stands ahead, are any.
	for _, height := range []int{1, 2, 299, 301, highest} {
		h := b.h
		h.Height, h.Prev = height, digest(height)
		if !checkMake(t, "a height", all, b.leaves, b.e, h) {
			t.Errorf("a header of height %d: none", height)
		}
	}
}

func TestMakeOfWrongEntries(t *testing.T) {
	for _, e := range wrongEntries() {
		for _, leaf := range [][]byte{entryOf(e), nil} {
			b := blockOf("lock", e, 1000, 300, digest(1))
			b.leaves[1] = leaf
			b.h.Root = rootOf(b.leaves)
			if checkMake(t, "a wrong entry", all, b.leaves, e, b.h) {
				t.Errorf("%v: a certificate", e)
			}
			b.h.Shard, b.h.Epoch = 5, 70000
			if checkMake(t, "a wrong entry, and a right header", all, b.leaves, e, b.h) {
				t.Errorf("%v: a certificate", e)
			}
		}
	}
}

func TestMakeOfWrongHeaders(t *testing.T) {
	for _, h := range wrongHeaders() {
		b := plainBlock()
		h.Root = b.h.Root
		if checkMake(t, "a wrong header", all, b.leaves, b.e, h) {
			t.Errorf("%v: a certificate", h)
		}
	}
	if checkMake(t, "nothing", all, nil, api.Entry{}, api.Header{}) {
		t.Error("a certificate of nothing")
	}
	if checkMake(t, "leaves without bytes", all, make([][]byte, 3), api.Entry{}, api.Header{}) {
		t.Error("a certificate of leaves without bytes")
	}
}

// What is handed in is neither changed nor kept, and behind the leaves' length
// nothing is read.
func TestMakeLeavesItsLeaves(t *testing.T) {
	b := plainBlock()
	l := append(b.leaves, []byte("more"), []byte("and more"))
	was := make([][]byte, len(l))
	for i := range l {
		was[i] = bytes.Clone(l[i])
	}
	c, ok := cert.Make(all.ring(), l[:3], b.e, b.h)
	if !ok || !cert.Same(c, plain()) {
		t.Fatalf("%v, %v", c, ok)
	}
	if c, ok := cert.Make(all.ring(), l[:2], b.e, b.h); ok {
		t.Errorf("leaves are read behind their length: %v", c)
	}
	for i := range l {
		if !bytes.Equal(l[i], was[i]) {
			t.Errorf("the leaf at %d has changed", i)
		}
		for j := range l[i] {
			l[i][j] = 0xee
		}
	}
	if !cert.Same(c, plain()) {
		t.Errorf("a leaf is kept: %v", c)
	}
}

// What is answered is new each time.
func TestMakeAnswersANewPath(t *testing.T) {
	r, b := all.ring(), plainBlock()
	first, _ := cert.Make(r, b.leaves, b.e, b.h)
	second, _ := cert.Make(r, b.leaves, b.e, b.h)
	room := first.Path[:cap(first.Path)]
	for i := range room {
		room[i] = api.Id{}
	}
	third, _ := cert.Make(r, b.leaves, b.e, b.h)
	if !cert.Same(second, plain()) || !cert.Same(third, plain()) {
		t.Error("two certificates share a path")
	}
}
