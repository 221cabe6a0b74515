package tag

import (
	"bytes"
	"crypto/hmac"
	"crypto/sha256"
	"encoding/hex"
	"math"
	"slices"
	"strings"
	"testing"

	"seisin/api"
)

// row answers n bytes without order, always the same ones.
func row(n int) []byte {
	l := make([]byte, n)
	step := uint64(n)*2654435761 + 1
	for i := range l {
		step = step*6364136223846793005 + 1442695040888963407
		l[i] = byte(step >> 56)
	}
	return l
}

// exact answers the tag by the library's own.
func exact(key, b []byte) api.Id {
	h := hmac.New(sha256.New, key)
	h.Write(b)
	return api.Id(h.Sum(nil))
}

// keyOf answers a shard's key by the library's own; of a number that is no
// shard's, what its low byte would tell.
func keyOf(seed []byte, shard int) []byte {
	key := exact(seed, []byte{byte(shard)})
	return key[:]
}

// turnedAt answers bytes of which one bit is turned.
func turnedAt(b []byte, bit int) []byte {
	other := bytes.Clone(b)
	other[bit/8] ^= 1 << (bit % 8)
	return other
}

// seeds are of lengths at and beside the one to which a key is filled.
func seeds() [][]byte {
	return [][]byte{nil, {}, {0}, []byte("seed"), row(31), row(32), row(63), row(64), row(65), row(200)}
}

// outside are numbers that no ring of n shards has, those whose low bits a shard
// has, too.
func outside(n int) []int {
	return []int{
		-1, -2, -n, -n - 1, -64, -65, -255, -256, math.MinInt, math.MinInt + 1, math.MinInt32, -1 << 32,
		n, n + 1, 64, 65, 128, 255, 256, 257, 256 + n - 1, 1 << 16, 1 << 32, 1<<32 + n - 1, math.MaxInt32, math.MaxInt - 1, math.MaxInt,
	}
}

// P6.1: Of

// The cases are those of RFC 4231 that have a whole tag, and nothing under nothing.
func TestOfKnownTags(t *testing.T) {
	counted := make([]byte, 25)
	for i := range counted {
		counted[i] = byte(i + 1)
	}
	for _, c := range []struct {
		key, b []byte
		want   string
	}{
		{nil, nil, "b613679a0814d9ec772f95d778c35fc5ff1697c493715653c6c712144292c5ad"},
		{bytes.Repeat([]byte{0x0b}, 20), []byte("Hi There"),
			"b0344c61d8db38535ca8afceaf0bf12b881dc200c9833da726e9376c2e32cff7"},
		{[]byte("Jefe"), []byte("what do ya want for nothing?"),
			"5bdcc146bf60754e6a042426089575c75a003f089d2739839dec58b964ec3843"},
		{bytes.Repeat([]byte{0xaa}, 20), bytes.Repeat([]byte{0xdd}, 50),
			"773ea91e36800e46854db8ebd09181a72959098b3ef8c122d9635514ced565fe"},
		{counted, bytes.Repeat([]byte{0xcd}, 50),
			"82558a389a443c0ea4cc819899f2083a85f0faa3e578f8077a2e3ff46729665b"},
		{bytes.Repeat([]byte{0xaa}, 131), []byte("Test Using Larger Than Block-Size Key - Hash Key First"),
			"60e431591ee0b67f0d8a26aacbf5b77f8e0bc6213728c5140546040f0ee37f54"},
		{bytes.Repeat([]byte{0xaa}, 131), []byte("This is a test using a larger than block-size key and a larger than block-size data. " +
			"The key needs to be hashed before being used by the HMAC algorithm."),
			"9b09ffa71b942fcb27635fbcd5b0e944bfdc63644f0713938a7f51535c3a35e2"},
	} {
		got := Of(c.key, c.b)
		if hex.EncodeToString(got[:]) != c.want {
			t.Errorf("of %q under %x: %x, not %s", c.b, c.key, got, c.want)
		}
	}
}

func TestOfNoKeyAndNoBytes(t *testing.T) {
	want := exact(nil, nil)
	for _, key := range [][]byte{nil, {}, row(9)[:0]} {
		for _, b := range [][]byte{nil, {}, row(9)[:0]} {
			if got := Of(key, b); got != want || !Is(key, b, want) {
				t.Errorf("%x, not %x", got, want)
			}
		}
	}
	if Of(nil, row(5)) != exact(nil, row(5)) || Of(row(5), nil) != exact(row(5), nil) {
		t.Error("one of both alone")
	}
}

func TestOfEveryLengthOfKey(t *testing.T) {
	for n := range 300 {
		for _, key := range [][]byte{row(n), make([]byte, n), bytes.Repeat([]byte{0xff}, n)} {
			for _, b := range [][]byte{nil, row(1), row(77)} {
				if got, want := Of(key, b), exact(key, b); got != want {
					t.Errorf("of %d bytes under %d: %x, not %x", len(b), n, got, want)
				}
			}
		}
	}
}

func TestOfEveryLengthOfBytes(t *testing.T) {
	for n := range 300 {
		for _, key := range [][]byte{nil, row(1), row(32), row(63), row(64), row(65)} {
			if got, want := Of(key, row(n)), exact(key, row(n)); got != want {
				t.Errorf("of %d bytes under %d: %x, not %x", n, len(key), got, want)
			}
		}
	}
}

func TestOfLongKeysAndLongBytes(t *testing.T) {
	long := row(1<<20 + 3)
	for _, c := range [][2][]byte{{long, nil}, {nil, long}, {long, long}, {long[:1<<16], long[1<<16:]}} {
		if got, want := Of(c[0], c[1]), exact(c[0], c[1]); got != want {
			t.Errorf("of %d bytes under %d: %x, not %x", len(c[1]), len(c[0]), got, want)
		}
	}
}

func TestOfEveryByteOfAKey(t *testing.T) {
	for x := range 256 {
		for _, n := range []int{1, 63, 64, 65} {
			key := bytes.Repeat([]byte{byte(x)}, n)
			if got, want := Of(key, row(3)), exact(key, row(3)); got != want {
				t.Errorf("under %d times %x: %x, not %x", n, x, got, want)
			}
		}
	}
}

// A key of more than 64 bytes is its digest, one of 64 and of fewer is not.
func TestALongKeyIsItsDigest(t *testing.T) {
	for n := range 140 {
		digest := sha256.Sum256(row(n))
		alike := Of(row(n), []byte("x")) == Of(digest[:], []byte("x"))
		if alike != (n > 64) {
			t.Errorf("a key of %d bytes: %v", n, alike)
		}
	}
}

// Up to 64 bytes a zero behind a key changes nothing; from the 65th byte on it does.
func TestAShortKeyIsFilledWithZeros(t *testing.T) {
	for n := range 64 {
		key := append(row(n), make([]byte, 80)...)
		for zeros := range 80 {
			alike := Of(key[:n], []byte("x")) == Of(key[:n+zeros], []byte("x"))
			if alike != (n+zeros <= 64) {
				t.Errorf("%d bytes and %d zeros: %v", n, zeros, alike)
			}
		}
	}
	if Of([]byte{0, 7}, nil) == Of([]byte{7}, nil) || Of([]byte{0, 7}, nil) == Of([]byte{7, 0}, nil) {
		t.Error("zeros ahead count as zeros behind")
	}
}

// P6.1: Is

func TestIs(t *testing.T) {
	for _, key := range seeds() {
		for _, n := range []int{0, 1, 55, 64, 200} {
			b, want := row(n), exact(key, row(n))
			if !Is(key, b, want) {
				t.Errorf("of %d bytes under %d: not its own", n, len(key))
			}
			for bit := range 256 {
				if Is(key, b, api.Id(turnedAt(want[:], bit))) {
					t.Errorf("of %d bytes under %d: with bit %d of the tag turned", n, len(key), bit)
				}
			}
			for bit := range 8 * n {
				if Is(key, turnedAt(b, bit), want) {
					t.Errorf("of %d bytes under %d: with bit %d of these turned", n, len(key), bit)
				}
			}
			for bit := range 8 * len(key) {
				if Is(turnedAt(key, bit), b, want) {
					t.Errorf("of %d bytes under %d: with bit %d of the key turned", n, len(key), bit)
				}
			}
			if Is(key, b, api.Id{}) || Is(key, b, sha256.Sum256(b)) || Is(key, b, sha256.Sum256(append(bytes.Clone(key), b...))) {
				t.Errorf("of %d bytes under %d: what is no tag", n, len(key))
			}
		}
	}
}

// P6.1: Keys and Len

func TestKeysOfEveryNumberOfShards(t *testing.T) {
	for _, seed := range seeds() {
		for shards := 1; shards <= 64; shards++ {
			if r := Keys(seed, shards); r == nil || r.Len() != shards {
				t.Errorf("no ring of %d", shards)
			}
		}
	}
}

func TestKeysOutside(t *testing.T) {
	for _, seed := range seeds() {
		for _, shards := range []int{
			0, -1, -2, -64, -255, -256, math.MinInt, math.MinInt + 1, math.MinInt32,
			65, 66, 128, 255, 256, 257, 320, 1 << 16, 1<<32 + 1, 1<<32 + 64, math.MaxInt32, math.MaxInt - 1, math.MaxInt,
		} {
			if Keys(seed, shards) != nil {
				t.Errorf("a ring of %d", shards)
			}
		}
	}
}

// P6.1: Sign and Is of a ring

func TestSignOfEveryShard(t *testing.T) {
	for _, seed := range seeds() {
		for _, shards := range []int{1, 2, 3, 16, 17, 63, 64} {
			r := Keys(seed, shards)
			for shard := range shards {
				for _, b := range [][]byte{nil, {byte(shard)}, []byte("x"), row(64), row(99)} {
					want := exact(keyOf(seed, shard), b)
					got, ok := r.Sign(shard, b)
					if !ok || got != want || !r.Is(shard, b, want) {
						t.Errorf("shard %d of %d, %d bytes: %x, %v, not %x", shard, shards, len(b), got, ok, want)
					}
				}
			}
		}
	}
}

func TestSignOfKnownKeys(t *testing.T) {
	r := Keys([]byte("seed"), 64)
	for _, c := range []struct {
		shard int
		b     []byte
		want  string
	}{
		{0, nil, "210e1f507a9a5fd1645114cde6334ad9466fb18030c733262aa3fcfde680a1aa"},
		{1, []byte("x"), "91b580eab93acf86e7714c93efc6b1b1ac506367a4b208d6ca477c37fab9dca7"},
		{63, []byte("x"), "be6c11fefb243195b02b0fceb1d7dd48ed643d2320b28ecf48630478d6642832"},
	} {
		got, ok := r.Sign(c.shard, c.b)
		if !ok || hex.EncodeToString(got[:]) != c.want {
			t.Errorf("shard %d: %x, %v, not %s", c.shard, got, ok, c.want)
		}
	}
}

func TestSignOfNoShard(t *testing.T) {
	for _, shards := range []int{1, 2, 3, 16, 63, 64} {
		r := Keys([]byte("seed"), shards)
		for _, shard := range outside(shards) {
			for _, b := range [][]byte{nil, []byte("x"), row(70)} {
				if got, ok := r.Sign(shard, b); ok || got != (api.Id{}) {
					t.Errorf("shard %d of %d: %x, %v", shard, shards, got, ok)
				}
			}
		}
	}
}

// Neither the zero tag, which Sign answers beside its false, nor what a key of
// that number would tell is a tag there.
func TestRingIsOfNoShard(t *testing.T) {
	for _, shards := range []int{1, 2, 3, 16, 63, 64} {
		r := Keys([]byte("seed"), shards)
		for _, shard := range outside(shards) {
			for _, b := range [][]byte{nil, []byte("x"), row(70)} {
				for _, tag := range []api.Id{{}, exact(keyOf([]byte("seed"), shard), b), exact(nil, b), exact(make([]byte, 32), b)} {
					if r.Is(shard, b, tag) {
						t.Errorf("shard %d of %d: %x", shard, shards, tag)
					}
				}
			}
		}
	}
}

func TestRingIsOfOtherTags(t *testing.T) {
	r := Keys([]byte("seed"), 3)
	for shard := range 3 {
		for _, n := range []int{0, 1, 70} {
			b := row(n)
			want := exact(keyOf([]byte("seed"), shard), b)
			for bit := range 256 {
				if r.Is(shard, b, api.Id(turnedAt(want[:], bit))) {
					t.Errorf("shard %d, %d bytes: with bit %d of the tag turned", shard, n, bit)
				}
			}
			for bit := range 8 * n {
				if r.Is(shard, turnedAt(b, bit), want) {
					t.Errorf("shard %d, %d bytes: with bit %d of these turned", shard, n, bit)
				}
			}
			if r.Is(shard, b, api.Id{}) || r.Is(shard, b, exact([]byte("seed"), b)) || r.Is(shard, append(b, 0), want) {
				t.Errorf("shard %d, %d bytes: what is no tag of these", shard, n)
			}
		}
	}
}

// P1: what Keys answers is asked all the same, also if there is no ring.
func TestNoRing(t *testing.T) {
	r := Keys([]byte("seed"), 0)
	if r.Len() != 0 {
		t.Error("it has keys")
	}
	for _, shard := range append(outside(1), 0) {
		if got, ok := r.Sign(shard, []byte("x")); ok || got != (api.Id{}) {
			t.Errorf("shard %d: %x, %v", shard, got, ok)
		}
		if r.Is(shard, []byte("x"), api.Id{}) || r.Is(shard, []byte("x"), exact(nil, []byte("x"))) {
			t.Errorf("shard %d: a tag", shard)
		}
	}
}

// How many shards there are changes no shard's key.
func TestAShardHasOneKeyInRingsOfAnyLength(t *testing.T) {
	most := Keys([]byte("seed"), 64)
	for shards := 1; shards <= 64; shards++ {
		r := Keys([]byte("seed"), shards)
		for shard := range shards {
			tag, ok := most.Sign(shard, row(shard))
			if !ok || !r.Is(shard, row(shard), tag) {
				t.Errorf("shard %d of %d", shard, shards)
			}
		}
	}
}

// P6.2

func TestAShardsTagIsNoOtherOnes(t *testing.T) {
	for _, seed := range seeds() {
		for _, b := range [][]byte{nil, {0}, []byte("x"), row(64), row(130)} {
			r := Keys(seed, 64)
			for shard := range 64 {
				tag, _ := r.Sign(shard, b)
				for other := range 64 {
					if is := r.Is(other, b, tag); is != (shard == other) {
						t.Errorf("of shard %d at shard %d: %v", shard, other, is)
					}
				}
			}
		}
	}
}

// Messages that are near to one another: with a byte more, ahead or behind, with
// zeros, with a shard's number in them, filled as keys or digests are.
func messages() [][]byte {
	l := [][]byte{}
	for n := range 131 {
		l = append(l, row(n), make([]byte, n), append(row(40), make([]byte, n)...))
	}
	for x := range 256 {
		l = append(l, []byte{byte(x)}, []byte{0, byte(x)}, []byte{byte(x), 0})
	}
	slices.SortFunc(l, bytes.Compare)
	return slices.CompactFunc(l, bytes.Equal)
}

func TestTagsOfOtherBytesOrShardsAreUnlike(t *testing.T) {
	type whose struct {
		shard int
		b     string
	}
	r := Keys([]byte("seed"), 64)
	seen := map[api.Id]whose{}
	for _, b := range messages() {
		for shard := range 64 {
			tag, ok := r.Sign(shard, b)
			if other, met := seen[tag]; met || !ok {
				t.Fatalf("shard %d and %x have the tag of shard %d and %x", shard, b, other.shard, other.b)
			}
			seen[tag] = whose{shard, string(b)}
		}
	}
}

func TestTagsOfOtherSeedsAreUnlike(t *testing.T) {
	seen := map[api.Id]int{}
	for n := range 200 {
		r := Keys(bytes.Repeat([]byte{7}, n), 3)
		for shard := range 3 {
			tag, _ := r.Sign(shard, []byte("x"))
			if other, met := seen[tag]; met {
				t.Errorf("seeds of %d and of %d bytes", other, n)
			}
			seen[tag] = n
		}
	}
}

// A key's last bytes don't count as the first ones that are under it.
func TestKeyAndBytesArePartedOneWay(t *testing.T) {
	for _, n := range []int{5, 64, 65, 130} {
		whole, seen := row(n), map[api.Id]int{}
		for key := range n + 1 {
			tag := Of(whole[:key], whole[key:])
			if other, met := seen[tag]; met {
				t.Errorf("%d bytes parted at %d and at %d", n, other, key)
			}
			seen[tag] = key
		}
	}
}

// R4 and R6

func TestArgumentsAreNeitherChangedNorReadBehind(t *testing.T) {
	for _, n := range []int{0, 1, 31, 63, 64, 65, 100} {
		key, b := row(n+80), row(n+90)
		key0, b0 := bytes.Clone(key), bytes.Clone(b)
		want := exact(key0[:n], b0[:n])
		r := Keys(key[:n], 2)
		tag, _ := r.Sign(1, b[:n])
		if Of(key[:n], b[:n]) != want || !Is(key[:n], b[:n], want) || tag != exact(keyOf(key0[:n], 1), b0[:n]) || !r.Is(1, b[:n], tag) {
			t.Errorf("%d bytes: another tag", n)
		}
		if !bytes.Equal(key, key0) || !bytes.Equal(b, b0) {
			t.Errorf("%d bytes: changed", n)
		}
		for i := n; i < len(key); i++ {
			key[i] ^= 0xff
		}
		if Of(key[:n], b[:n]) != want || !Keys(key[:n], 2).Is(1, b[:n], tag) {
			t.Errorf("%d bytes: what lies behind is read", n)
		}
	}
}

func TestTheSeedIsKeptByItsValues(t *testing.T) {
	for _, n := range []int{4, 64, 65} {
		seed := row(n)
		r := Keys(seed, 3)
		clear(seed)
		for shard := range 3 {
			if !r.Is(shard, []byte("x"), exact(keyOf(row(n), shard), []byte("x"))) {
				t.Errorf("a seed of %d bytes: shard %d has another key", n, shard)
			}
		}
	}
}

func TestRingsAreApart(t *testing.T) {
	first := Keys([]byte("first"), 3)
	second := Keys([]byte("second"), 5)
	for range 3 {
		for shard := range 3 {
			b := []byte(strings.Repeat("b", shard))
			one, ok := first.Sign(shard, b)
			other, okOther := second.Sign(shard, b)
			if !ok || one != exact(keyOf([]byte("first"), shard), b) || first.Is(shard, b, other) {
				t.Errorf("shard %d of the first", shard)
			}
			if !okOther || other != exact(keyOf([]byte("second"), shard), b) || second.Is(shard, b, one) {
				t.Errorf("shard %d of the second", shard)
			}
		}
		if first.Len() != 3 || second.Len() != 5 {
			t.Error("their lengths")
		}
	}
}

func TestTheSameCallHasTheSameAnswer(t *testing.T) {
	r := Keys([]byte("seed"), 2)
	tag, _ := r.Sign(0, []byte("x"))
	for range 3 {
		r.Sign(1, []byte("y"))
		r.Sign(2, []byte("y"))
		r.Is(0, []byte("y"), tag)
		Keys([]byte("other"), 2).Sign(0, []byte("x"))
		again, ok := r.Sign(0, []byte("x"))
		if !ok || again != tag || !r.Is(0, []byte("x"), tag) || Of([]byte("k"), []byte("x")) != exact([]byte("k"), []byte("x")) {
			t.Errorf("%x, not %x", again, tag)
		}
	}
}
