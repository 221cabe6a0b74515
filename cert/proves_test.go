package cert_test

import (
	"math"
	"slices"
	"testing"

	"seisin/api"
	"seisin/cert"
	"seisin/header"
)

// P11.1: Proves

func TestProvesItsOwnEntryAlone(t *testing.T) {
	r := all.ring()
	kinds := []int{math.MinInt, -1, 0, 1, 2, 3, 4, 5, 256 + 1, 1<<32 + 1, math.MaxInt}
	shards := []int{math.MinInt, -1, 0, 2, 4, 5, 6, 15, 62, 63, 64, 256 + 5, 1<<32 + 5, math.MaxInt}
	for _, b := range blocks() {
		c := b.cert(all)
		ids := []api.Id{{}, b.e.Tx, digest(3), digest(4), digest(5), c.H.Root, c.H.Prev, flipped(b.e.Tx, 0), flipped(b.e.Tx, 131), flipped(b.e.Tx, 255)}
		for _, kind := range kinds {
			for _, shard := range shards {
				for _, id := range ids {
					want := kind == b.e.Kind && shard == b.e.Shard && id == b.e.Tx
					if got := cert.Proves(r, c, kind, shard, id); got != want {
						t.Errorf("%v proves %d of %x at %d: %v", c, kind, id, shard, got)
					}
				}
			}
		}
	}
}

func TestProvesLooksAtEachBitOfTheTransaction(t *testing.T) {
	r, c := all.ring(), plain()
	if !cert.Proves(r, c, 1, 5, digest(3)) {
		t.Fatal("it doesn't prove its entry")
	}
	for bit := range 256 {
		if cert.Proves(r, c, 1, 5, flipped(digest(3), bit)) {
			t.Errorf("the bit at %d isn't looked at", bit)
		}
	}
}

// What isn't right proves nothing, not its own entry either.
func TestWhatIsntRightProvesNothing(t *testing.T) {
	r := all.ring()
	for i, turn := range turns() {
		c := with(turn)
		if cert.Proves(r, c, c.E.Kind, c.E.Shard, c.E.Tx) || cert.Proves(r, c, 1, 5, digest(3)) {
			t.Errorf("with what turn %d does it proves", i)
		}
	}
	for _, e := range wrongEntries() {
		c := signedAnew(with(func(c *api.Cert) { c.E, c.H.Shard, c.H.Epoch = e, e.Shard, e.Epoch }), entryOf(e))
		if cert.Proves(r, c, e.Kind, e.Shard, e.Tx) {
			t.Errorf("%v proves", e)
		}
	}
	if cert.Proves(r, api.Cert{}, 0, 0, api.Id{}) {
		t.Error("the zero certificate proves")
	}
}

func TestProvesUnderOtherRings(t *testing.T) {
	c := plain()
	for _, k := range []keys{{"other", 64}, {"seed", 5}, {"seed", 1}, {"", 6}} {
		if cert.Proves(k.ring(), c, 1, 5, digest(3)) {
			t.Errorf("it proves under %v", k)
		}
	}
	if cert.Proves(nil, c, 1, 5, digest(3)) || cert.Proves(nil, api.Cert{}, 0, 0, api.Id{}) {
		t.Error("it proves under no ring")
	}
	if !cert.Proves(keys{"seed", 6}.ring(), c, 1, 5, digest(3)) {
		t.Error("it doesn't prove with the fewest keys")
	}
}

// P11.3

// chainOf is a chain of blocks of one shard, built by the layers below.
func chainOf(t *testing.T, shard, length int) []block {
	t.Helper()
	var l []block
	var h api.Header
	for n := range length {
		e := api.Entry{Kind: 1 + n%3, Shard: shard, Tx: digest(100 + n/2), Amount: uint64(n), Why: n % 4, Epoch: n / 3}
		leaves, ok := header.Leaves([]byte{byte(n)}, e, uint64(10*n))
		if !ok {
			t.Fatal("no leaves")
		}
		next, ok := header.Next(h, n == 0, leaves, shard, e.Epoch)
		if !ok {
			t.Fatal("no header")
		}
		h = next
		l = append(l, block{leaves, e, h})
	}
	return l
}

func TestCertificatesOfChains(t *testing.T) {
	r := keys{"seed", 3}.ring()
	for shard := range 3 {
		for _, b := range chainOf(t, shard, 12) {
			c, ok := cert.Make(r, b.leaves, b.e, b.h)
			if !ok || !cert.Same(c, b.cert(all)) || !cert.Is(r, c) {
				t.Fatalf("%v: %v, %v", b.h, c, ok)
			}
			for other := range 3 {
				for kind := 1; kind <= 3; kind++ {
					for n := range 6 {
						want := other == shard && kind == b.e.Kind && digest(100+n) == b.e.Tx
						if got := cert.Proves(r, c, kind, other, digest(100+n)); got != want {
							t.Errorf("%v proves %d at %d of the transaction %d: %v", b.e, kind, other, n, got)
						}
					}
				}
			}
		}
	}
}

// mixed answers a certificate whose parts are of up to five others.
func mixed(l []api.Cert, e, first, second, h, signed int) api.Cert {
	return api.Cert{E: l[e].E, Path: []api.Id{l[first].Path[0], l[second].Path[1]}, H: l[h].H, Tag: l[signed].Tag}
}

// Of parts of several blocks no certificate is put together.
func TestPartsOfSeveralBlocks(t *testing.T) {
	k := keys{"seed", 3}
	r := k.ring()
	var l []api.Cert
	for shard := range 2 {
		for _, b := range chainOf(t, shard, 2) {
			l = append(l, b.cert(k))
		}
	}
	for n := range 1024 {
		at := []int{n & 3, n >> 2 & 3, n >> 4 & 3, n >> 6 & 3, n >> 8}
		c := mixed(l, at[0], at[1], at[2], at[3], at[4])
		// Parts that two blocks have in common are those of both.
		want := slices.ContainsFunc(l, func(whole api.Cert) bool { return cert.Same(whole, c) })
		if got := cert.Is(r, c); got != want || got != rightBy(k, c) {
			t.Errorf("parts of %v: %v", at, got)
		}
	}
}

// Whoever has other keys, or none, signs for no shard.
func TestWhoHasNoKeySignsNothing(t *testing.T) {
	r := all.ring()
	for _, b := range blocks() {
		form := headerOf(b.h)
		c := b.cert(all)
		for shard := range 64 {
			c.Tag = all.sign(shard, form)
			if got := cert.Is(r, c); got != (shard == b.h.Shard) {
				t.Errorf("shard %d signs for shard %d: %v", shard, b.h.Shard, got)
			}
			c.Tag = keys{"another seed", 64}.sign(shard, form)
			if cert.Is(r, c) {
				t.Errorf("another ring's shard %d signs for shard %d", shard, b.h.Shard)
			}
		}
	}
}

// An entry that isn't in the block isn't proven by the block's header, whatever
// path comes with it.
func TestEntriesThatStandInNoBlock(t *testing.T) {
	r, b := all.ring(), plainBlock()
	other := b.e
	other.Amount = 301
	a, d, whole := leafOf(b.leaves[0]), leafOf(b.leaves[2]), leafOf(b.leaves[1])
	for _, path := range [][]api.Id{{a, d}, {d, a}, {whole, d}, {a, whole}, {nodeOf(a, whole), d}, {b.h.Root, b.h.Root}, {{}, b.h.Root}, {b.h.Root}, nil, {a, whole, d}} {
		c := b.cert(all)
		c.E, c.Path = other, path
		if cert.Is(r, c) || cert.Proves(r, c, other.Kind, other.Shard, other.Tx) {
			t.Errorf("%v is proven by %x", other, path)
		}
	}
}
