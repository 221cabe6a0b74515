// The tests hold the package's exported calls alone against the document's words.
package cert_test

import (
	"bytes"
	"crypto/hmac"
	"crypto/sha256"
	"encoding/binary"
	"math"
	"math/big"
	"slices"
	"testing"

	"seisin/api"
	"seisin/cert"
	"seisin/tag"
)

const (
	top = uint64(1) << 62
	// highest is the greatest height, and the greatest epoch.
	highest = 1 << 40
)

func digest(n int) api.Id { return sha256.Sum256([]byte{byte(n >> 8), byte(n)}) }

// under is a digest under a mark, by the document's words.
func under(mark byte, lists ...[]byte) api.Id {
	b := []byte{mark}
	for _, l := range lists {
		b = append(binary.BigEndian.AppendUint32(b, uint32(len(l))), l...)
	}
	return sha256.Sum256(b)
}

func leafOf(b []byte) api.Id { return under(1, b) }

func nodeOf(a, b api.Id) api.Id { return under(2, a[:], b[:]) }

// rootOf is the root of three leaves.
func rootOf(l [][]byte) api.Id { return nodeOf(nodeOf(leafOf(l[0]), leafOf(l[1])), leafOf(l[2])) }

// macOf is a tag, by the library's own.
func macOf(key, b []byte) api.Id {
	h := hmac.New(sha256.New, key)
	h.Write(b)
	return api.Id(h.Sum(nil))
}

// keys tell a ring: its seed, and how many shards it has.
type keys struct {
	seed   string
	shards int
}

func (k keys) ring() *tag.Ring { return tag.Keys([]byte(k.seed), k.shards) }

// sign is a shard's tag, by the document's words; of a number that is no
// shard's, what its low byte would tell.
func (k keys) sign(shard int, b []byte) api.Id {
	key := macOf([]byte(k.seed), []byte{byte(shard)})
	return macOf(key[:], b)
}

// all is the ring that has all shards' keys.
var all = keys{"seed", 64}

// numOf is a number's form, by numbers of any size.
func numOf(n uint64) []byte {
	b := new(big.Int).SetUint64(n).Bytes()
	return append([]byte{byte(len(b))}, b...)
}

func textOf(b []byte) []byte { return append(numOf(uint64(len(b))), b...) }

// entryOf is an entry's form, by the document's words; of one that isn't right,
// what its fields would be.
func entryOf(e api.Entry) []byte {
	b := append(numOf(uint64(e.Kind)), numOf(uint64(e.Shard))...)
	b = append(b, e.Tx[:]...)
	b = append(b, numOf(e.Amount)...)
	b = append(b, numOf(uint64(e.Why))...)
	return append(b, numOf(uint64(e.Epoch))...)
}

// headerOf is a header's form, likewise.
func headerOf(h api.Header) []byte {
	b := append(numOf(uint64(h.Shard)), numOf(uint64(h.Height))...)
	b = append(b, numOf(uint64(h.Epoch))...)
	b = append(b, h.Prev[:]...)
	return append(b, h.Root[:]...)
}

func idsOf(l []api.Id) []byte {
	var b []byte
	for _, d := range l {
		b = append(b, d[:]...)
	}
	return b
}

// formOf is a certificate's form, by the document's words.
func formOf(c api.Cert) []byte {
	var e, h []byte
	if entryRight(c.E) {
		e = entryOf(c.E)
	}
	if headerRight(c.H) {
		h = headerOf(c.H)
	}
	b := append(textOf(e), numOf(uint64(len(c.Path)))...)
	b = append(b, idsOf(c.Path)...)
	b = append(b, textOf(h)...)
	return append(b, c.Tag[:]...)
}

func entryRight(e api.Entry) bool {
	switch {
	case e.Kind < 1 || e.Kind > 3, e.Shard < 0 || e.Shard > 63, e.Why < 0 || e.Why > 63:
		return false
	}
	return e.Amount <= top && e.Epoch >= 0 && e.Epoch <= highest
}

func headerRight(h api.Header) bool {
	switch {
	case h.Shard < 0 || h.Shard > 63, h.Height < 1 || h.Height > highest:
		return false
	}
	return h.Epoch >= 0 && h.Epoch <= highest
}

// rightBy tells what Is has to, by the document's words.
func rightBy(k keys, c api.Cert) bool {
	switch {
	case !entryRight(c.E) || !headerRight(c.H):
		return false
	case c.E.Shard != c.H.Shard || c.E.Epoch != c.H.Epoch:
		return false
	case len(c.Path) != 2 || c.H.Shard >= k.shards:
		return false
	}
	climbed := nodeOf(nodeOf(c.Path[0], leafOf(entryOf(c.E))), c.Path[1])
	return climbed == c.H.Root && c.Tag == k.sign(c.H.Shard, headerOf(c.H))
}

// check holds Is against the document's words; it answers what is right.
func check(t *testing.T, what string, k keys, c api.Cert) bool {
	t.Helper()
	want := rightBy(k, c)
	if got := cert.Is(k.ring(), c); got != want {
		t.Fatalf("%s: %v is right under %v: %v", what, c, k, got)
	}
	if got := cert.Proves(k.ring(), c, c.E.Kind, c.E.Shard, c.E.Tx); got != want {
		t.Fatalf("%s: %v proves its entry under %v: %v", what, c, k, got)
	}
	if got := cert.Is(nil, c); got {
		t.Fatalf("%s: %v is right under no ring", what, c)
	}
	return want
}

// block is a block: its leaves, of which one is the entry's, and its header.
type block struct {
	leaves [][]byte
	e      api.Entry
	h      api.Header
}

// blockOf is a block, be it right or not: what its fields tell is its leaf.
func blockOf(command string, e api.Entry, issued uint64, height int, prev api.Id) block {
	l := [][]byte{[]byte(command), entryOf(e), numOf(issued)}
	return block{l, e, api.Header{Shard: e.Shard, Height: height, Epoch: e.Epoch, Prev: prev, Root: rootOf(l)}}
}

// cert is the block's certificate, by the document's words.
func (b block) cert(k keys) api.Cert {
	path := []api.Id{leafOf(b.leaves[0]), leafOf(b.leaves[2])}
	return api.Cert{E: b.e, Path: path, H: b.h, Tag: k.sign(b.h.Shard, headerOf(b.h))}
}

func plainEntry() api.Entry {
	return api.Entry{Kind: 1, Shard: 5, Tx: digest(3), Amount: 300, Why: 13, Epoch: 70000}
}

func plainBlock() block { return blockOf("lock", plainEntry(), 1000, 300, digest(1)) }

func plain() api.Cert { return plainBlock().cert(all) }

// blocks are right ones: first ones and later ones, and such as are at an edge.
func blocks() []block {
	return []block{
		plainBlock(),
		blockOf("issue", api.Entry{Kind: 3, Shard: 2, Tx: digest(4), Amount: 40, Why: 1}, 40, 1, api.Id{}),
		blockOf("lock", api.Entry{Kind: 2, Shard: 2, Tx: digest(5), Why: 15, Epoch: 7}, 40, 2, digest(2)),
		blockOf("", api.Entry{Kind: 1}, 0, 1, api.Id{}),
		blockOf("", api.Entry{Kind: 3, Tx: api.Id{}, Why: 7, Epoch: 1}, 0, 2, digest(3)),
		blockOf("most", api.Entry{Kind: 3, Shard: 63, Tx: digest(6), Amount: top, Why: 63, Epoch: highest}, top, highest, digest(4)),
		blockOf("many", api.Entry{Kind: 2, Shard: 62, Tx: digest(7), Amount: top - 1, Why: 62, Epoch: highest - 1}, top-1, highest-1, digest(5)),
		blockOf(string(make([]byte, 5000)), api.Entry{Kind: 1, Shard: 15, Tx: digest(8), Amount: 1, Epoch: 256}, 256, 256, digest(6)),
		blockOf(string(entryOf(plainEntry())), plainEntry(), 300, 1, api.Id{}),
	}
}

// with answers the plain certificate, to which something was done.
func with(turn func(c *api.Cert)) api.Cert {
	c := plain()
	turn(&c)
	return c
}

// signedAnew answers a certificate, its root and its tag told anew: so nothing
// is wrong with it but its entry, its header, or that these are unlike.
func signedAnew(c api.Cert, leaf []byte) api.Cert {
	c.H.Root = nodeOf(nodeOf(c.Path[0], leafOf(leaf)), c.Path[1])
	c.Tag = all.sign(c.H.Shard, headerOf(c.H))
	return c
}

// wrongEntries are such as aren't right, each by one number.
func wrongEntries() []api.Entry {
	l := []api.Entry{{}}
	for _, n := range outside() {
		a, b, c, d := plainEntry(), plainEntry(), plainEntry(), plainEntry()
		a.Kind, b.Shard, c.Why, d.Epoch = n, n, n, n
		l = append(l, a, b, c, d)
	}
	for _, n := range []int{0, 4, 5, 63, 64, 65} {
		a, b, c := plainEntry(), plainEntry(), plainEntry()
		a.Kind, b.Shard, c.Why = n, n, n
		l = append(l, a, b, c)
	}
	for _, n := range []uint64{top + 1, 2*top - 1, 2 * top, math.MaxUint64} {
		e := plainEntry()
		e.Amount = n
		l = append(l, e)
	}
	return slices.DeleteFunc(l, entryRight)
}

// wrongHeaders are such as aren't right, each by one number.
func wrongHeaders() []api.Header {
	l := []api.Header{{}, {Root: digest(1)}}
	for _, n := range append(outside(), 0, 64, 65) {
		a, b, c := plain().H, plain().H, plain().H
		a.Shard, b.Height, c.Epoch = n, n, n
		l = append(l, a, b, c)
	}
	return slices.DeleteFunc(l, headerRight)
}

// outside are whole numbers that are in no field's bounds, among them such as
// would be within if they lost their sign, or their high bits.
func outside() []int {
	return []int{-1, -2, -59, -251, -256, -1 << 32, math.MinInt, math.MinInt + 1, highest + 1, highest + 5,
		highest*256 + 1, 1<<62 + 1, math.MaxInt - 1, math.MaxInt}
}

// flipped answers a digest with one bit turned.
func flipped(d api.Id, bit int) api.Id {
	d[bit/8] ^= 1 << (bit % 8)
	return d
}

// P11.1: Is

func TestOrdinaryCertificates(t *testing.T) {
	for _, b := range blocks() {
		c := b.cert(all)
		if !check(t, "a block's certificate", all, c) {
			t.Errorf("%v isn't right", c)
		}
		least := keys{all.seed, b.h.Shard + 1}
		if !check(t, "with the fewest keys", least, b.cert(least)) {
			t.Errorf("%v isn't right with the fewest keys", c)
		}
	}
	for n := range 300 {
		e := api.Entry{Kind: 1 + n%3, Shard: n % 64, Tx: digest(n), Amount: uint64(n * n), Why: n % 30, Epoch: n / 2}
		c := blockOf("command", e, uint64(n*n*n), n+1, digest(n+1)).cert(all)
		if !check(t, "one of many", all, c) {
			t.Errorf("%v isn't right", c)
		}
	}
}

// The document's example.
func TestOneBitOfTheTag(t *testing.T) {
	for _, b := range blocks() {
		for bit := range 256 {
			c := b.cert(all)
			c.Tag = flipped(c.Tag, bit)
			if check(t, "a bit of the tag", all, c) {
				t.Errorf("with the bit at %d turned it is right: %v", bit, c)
			}
		}
	}
}

func TestOtherTags(t *testing.T) {
	c := plain()
	form := headerOf(c.H)
	for _, d := range []api.Id{
		{}, c.H.Root, c.H.Prev, under(11, form), sha256.Sum256(form),
		all.sign(4, form), all.sign(6, form), all.sign(0, form), keys{"other", 64}.sign(5, form), keys{"", 64}.sign(5, form),
		all.sign(5, entryOf(c.E)), all.sign(5, c.H.Root[:]), all.sign(5, nil), all.sign(5, form[:len(form)-1]),
		all.sign(5, append(bytes.Clone(form), 0)), all.sign(5, textOf(form)), all.sign(5, formOf(c)),
		macOf([]byte(all.seed), form), macOf(nil, form), macOf([]byte{5}, form),
	} {
		if check(t, "another tag", all, with(func(c *api.Cert) { c.Tag = d })) {
			t.Errorf("the tag %x is right", d)
		}
	}
}

func TestANilRing(t *testing.T) {
	for _, b := range blocks() {
		if cert.Is(nil, b.cert(all)) {
			t.Errorf("%v is right", b.h)
		}
	}
	if cert.Is(nil, api.Cert{}) || cert.Is(keys{"seed", 0}.ring(), plain()) {
		t.Error("right without a ring")
	}
}

func TestRingsOfFewerShards(t *testing.T) {
	for _, b := range blocks() {
		c := b.cert(all)
		for shards := 1; shards <= 64; shards++ {
			if got := check(t, "fewer shards", keys{all.seed, shards}, c); got != (b.h.Shard < shards) {
				t.Errorf("shard %d of %d: %v", b.h.Shard, shards, got)
			}
		}
	}
}

func TestOtherRings(t *testing.T) {
	for _, seed := range []string{"", "Seed", "seed2", "see", "other", string(make([]byte, 100))} {
		k := keys{seed, 64}
		for _, b := range blocks() {
			if check(t, "another ring", k, b.cert(all)) || !check(t, "its own ring", k, b.cert(k)) {
				t.Errorf("the seed %q, and %v", seed, b.h)
			}
		}
	}
}

// A certificate whose entry isn't right isn't either, whatever stands for its
// leaf, and whatever shard and epoch the header has.
func TestEntriesThatArentRight(t *testing.T) {
	for _, e := range wrongEntries() {
		for _, leaf := range [][]byte{entryOf(e), nil, entryOf(plainEntry())} {
			c := with(func(c *api.Cert) { c.E = e })
			if check(t, "a wrong entry", all, signedAnew(c, leaf)) {
				t.Errorf("%v is right", e)
			}
			c.H.Shard, c.H.Epoch = e.Shard, e.Epoch
			if check(t, "a wrong entry, and a header like it", all, signedAnew(c, leaf)) {
				t.Errorf("%v is right", e)
			}
		}
	}
}

func TestHeadersThatArentRight(t *testing.T) {
	for _, h := range wrongHeaders() {
		c := with(func(c *api.Cert) { c.H = h })
		for range 2 {
			c = signedAnew(c, entryOf(c.E))
			for _, d := range []api.Id{c.Tag, all.sign(5, nil), all.sign(h.Shard, nil), {}} {
				c.Tag = d
				if check(t, "a wrong header", all, c) {
					t.Errorf("%v is right", c.H)
				}
			}
			// Then with an entry of the header's shard and epoch, right or not.
			c.E.Shard, c.E.Epoch = h.Shard, h.Epoch
		}
	}
	if check(t, "nothing", all, api.Cert{}) || check(t, "nothing, signed", all, api.Cert{Tag: all.sign(0, nil)}) {
		t.Error("the zero certificate is right")
	}
}

// All else is right: the path climbs, and the header's shard signed it.
func TestEntriesOfAnotherShardOrEpoch(t *testing.T) {
	for shard := range 64 {
		c := with(func(c *api.Cert) { c.E.Shard = shard })
		c = signedAnew(c, entryOf(c.E))
		if got := check(t, "an entry's shard", all, c); got != (shard == 5) {
			t.Errorf("an entry of shard %d in a header of shard 5: %v", shard, got)
		}
		// Nor does the entry's own shard sign for it.
		c.Tag = all.sign(shard, headerOf(c.H))
		if got := check(t, "an entry's shard, and its tag", all, c); got != (shard == 5) {
			t.Errorf("an entry of shard %d in a header of shard 5: %v", shard, got)
		}
	}
	for _, epoch := range []int{0, 1, 69999, 70000, 70001, 70000 + 1<<32, 70000 - 65536, highest - 1, highest} {
		c := with(func(c *api.Cert) { c.E.Epoch = epoch })
		if got := check(t, "an entry's epoch", all, signedAnew(c, entryOf(c.E))); got != (epoch == 70000) {
			t.Errorf("an entry of epoch %d in a header of epoch 70000: %v", epoch, got)
		}
	}
	for _, turn := range []func(c *api.Cert){
		func(c *api.Cert) { c.E.Shard, c.H.Epoch = 6, 6 },
		func(c *api.Cert) { c.E.Shard, c.H.Shard, c.E.Epoch, c.H.Epoch = 5, 6, 6, 5 },
		func(c *api.Cert) { c.E.Shard, c.E.Epoch, c.H.Shard, c.H.Epoch = 7, 9, 9, 7 },
	} {
		if c := signedAnew(with(turn), entryOf(with(turn).E)); check(t, "both", all, c) {
			t.Errorf("%v in %v", c.E, c.H)
		}
	}
}

// turns are what each changes one part of a certificate, or puts it elsewhere.
func turns() []func(c *api.Cert) {
	return []func(c *api.Cert){
		func(c *api.Cert) { c.E.Kind = 2 },
		func(c *api.Cert) { c.E.Kind = 3 },
		func(c *api.Cert) { c.E.Tx = flipped(c.E.Tx, 0) },
		func(c *api.Cert) { c.E.Tx = flipped(c.E.Tx, 255) },
		func(c *api.Cert) { c.E.Amount++ },
		func(c *api.Cert) { c.E.Amount = 0 },
		func(c *api.Cert) { c.E.Why-- },
		func(c *api.Cert) { c.E.Epoch, c.H.Epoch = 70001, 70001 },
		func(c *api.Cert) { c.E.Shard, c.H.Shard = 6, 6 },
		func(c *api.Cert) { c.E.Shard = 6 },
		func(c *api.Cert) { c.E.Epoch-- },
		func(c *api.Cert) { c.H.Shard = 4 },
		func(c *api.Cert) { c.H.Epoch++ },
		func(c *api.Cert) { c.H.Height++ },
		func(c *api.Cert) { c.H.Height = 1 },
		func(c *api.Cert) { c.H.Prev = api.Id{} },
		func(c *api.Cert) { c.H.Prev = flipped(c.H.Prev, 9) },
		func(c *api.Cert) { c.H.Root = flipped(c.H.Root, 9) },
		func(c *api.Cert) { c.H.Root = leafOf(entryOf(c.E)) },
		func(c *api.Cert) { c.Path = nil },
		func(c *api.Cert) { c.Path[0] = flipped(c.Path[0], 77) },
		func(c *api.Cert) { c.Path[1] = flipped(c.Path[1], 78) },
		func(c *api.Cert) { c.Tag = api.Id{} },
	}
}

func TestOneOtherPart(t *testing.T) {
	for i, turn := range turns() {
		if check(t, "one other part", all, with(turn)) {
			t.Errorf("with what turn %d does it is right", i)
		}
	}
}

// P11.1: paths

func TestPathsThatAreShorterOrLonger(t *testing.T) {
	c := plain()
	a, b := c.Path[0], c.Path[1]
	for _, path := range [][]api.Id{
		nil, {}, {a}, {b}, {a, b, b}, {a, b, {}}, {{}, a, b}, {a, a, b}, {a, b, a, b}, slices.Repeat([]api.Id{a}, 32), slices.Repeat([]api.Id{a, b}, 5000),
	} {
		if check(t, "a path", all, with(func(c *api.Cert) { c.Path = path })) {
			t.Errorf("a path of %d is right", len(path))
		}
	}
}

func TestPathsThatAreTurned(t *testing.T) {
	c := plain()
	a, b := c.Path[0], c.Path[1]
	for _, path := range [][]api.Id{{b, a}, {a, a}, {b, b}, {{}, b}, {a, {}}, {{}, {}}, {leafOf(entryOf(c.E)), b}, {nodeOf(a, b), b}} {
		if check(t, "a path", all, with(func(c *api.Cert) { c.Path = path })) {
			t.Errorf("%x is right", path)
		}
	}
	for bit := range 256 {
		for at := range 2 {
			if check(t, "a bit", all, with(func(c *api.Cert) { c.Path[at] = flipped(c.Path[at], bit) })) {
				t.Errorf("the bit at %d of the digest at %d isn't looked at", bit, at)
			}
		}
	}
}

// Of other trees, and of other places in one, the path climbs to their root, but
// not as that of the second of three leaves.
func TestTheEntryElsewhere(t *testing.T) {
	form := entryOf(plainEntry())
	leaf, a, b, d := leafOf(form), digest(21), digest(22), digest(23)
	for _, x := range []struct {
		what string
		root api.Id
		path []api.Id
		want bool
	}{
		{"the second of three", nodeOf(nodeOf(a, leaf), b), []api.Id{a, b}, true},
		{"the first of three", nodeOf(nodeOf(leaf, a), b), []api.Id{a, b}, false},
		{"the third of three", nodeOf(nodeOf(a, b), leaf), []api.Id{nodeOf(a, b)}, false},
		{"the third of three, with two", nodeOf(nodeOf(a, b), leaf), []api.Id{a, b}, false},
		{"the second of the last two", nodeOf(a, nodeOf(b, leaf)), []api.Id{b, a}, false},
		{"the only one", leaf, nil, false},
		{"the first of two", nodeOf(leaf, a), []api.Id{a}, false},
		{"the second of two", nodeOf(a, leaf), []api.Id{a}, false},
		{"the second of five", nodeOf(nodeOf(nodeOf(a, leaf), b), d), []api.Id{a, b, d}, false},
		{"the root itself", api.Id(form[:32]), nil, false},
	} {
		c := with(func(c *api.Cert) { c.Path, c.H.Root = x.path, x.root })
		c.Tag = all.sign(5, headerOf(c.H))
		if got := check(t, x.what, all, c); got != x.want {
			t.Errorf("%s: %v", x.what, got)
		}
	}
}

// What is handed in isn't changed, and behind the path's length nothing is read.
func TestIsLeavesItsPath(t *testing.T) {
	c := plain()
	whole := append(slices.Clone(c.Path), digest(31), digest(32))
	was := slices.Clone(whole)
	c.Path = whole[:2]
	if !check(t, "a path with room", all, c) {
		t.Error("what lies behind the path is read")
	}
	c.Path = whole[:1]
	if check(t, "a path that is cut", all, c) {
		t.Error("the path is read behind its length")
	}
	if !slices.Equal(whole, was) {
		t.Error("the path has changed")
	}
}
