package tree

import (
	"bytes"
	"crypto/sha256"
	"encoding/hex"
	"math"
	"slices"
	"strconv"
	"strings"
	"testing"

	"seisin/api"
)

// row answers n bytes without order, always the same ones.
func row(n int) []byte {
	l := make([]byte, n)
	step := uint64(n)*2654435761 + 1
	for i := range l {
		step = step*6364136223846793005 + 1442695040888963407
		l[i] = byte(step >> 56)
	}
	return l
}

// leavesOf answers n leaves, no two alike, of several lengths.
func leavesOf(n int) [][]byte {
	l := make([][]byte, n)
	for i := range l {
		l[i] = append([]byte(strconv.Itoa(i)), row(i%70)...)
	}
	return l
}

// digests answers n digests, no two alike.
func digests(n int) []api.Id {
	l := make([]api.Id, n)
	for i := range l {
		l[i] = sha256.Sum256(append(row(n), byte(i)))
	}
	return l
}

func texts(words ...string) [][]byte {
	var l [][]byte
	for _, w := range words {
		l = append(l, []byte(w))
	}
	return l
}

// framed answers what the digest under a mark is of, written out by hand.
func framed(mark byte, lists ...[]byte) []byte {
	all := []byte{mark}
	for _, l := range lists {
		n := len(l)
		all = append(all, byte(n>>24), byte(n>>16), byte(n>>8), byte(n))
		all = append(all, l...)
	}
	return all
}

func under(mark byte, lists ...[]byte) api.Id { return sha256.Sum256(framed(mark, lists...)) }

func node(a, b api.Id) api.Id { return under(2, a[:], b[:]) }

// levels answers a tree's digests from the leaves up: each level's stand two by
// two below the next one's, and one that is left over goes up as it is. Such a
// tree's root is that of the chapter.
func levels(leaves [][]byte) [][]api.Id {
	level := []api.Id{}
	for _, l := range leaves {
		level = append(level, under(1, l))
	}
	all := [][]api.Id{level}
	for len(level) > 1 {
		above := []api.Id{}
		for i := 0; i+1 < len(level); i += 2 {
			above = append(above, node(level[i], level[i+1]))
		}
		if len(level)%2 == 1 {
			above = append(above, level[len(level)-1])
		}
		level = above
		all = append(all, level)
	}
	return all
}

func rootBy(leaves [][]byte) api.Id {
	if len(leaves) == 0 {
		return under(0)
	}
	all := levels(leaves)
	return all[len(all)-1][0]
}

// pathBy answers the path of a leaf that there is.
func pathBy(leaves [][]byte, at int) []api.Id {
	var path []api.Id
	for _, level := range levels(leaves) {
		if at^1 < len(level) {
			path = append(path, level[at^1])
		}
		at /= 2
	}
	return path
}

// climbBy climbs from a leaf up, level by level, as wide as they are.
func climbBy(leaf []byte, at, n int, path []api.Id) (api.Id, bool) {
	if n < 1 || n > 1<<20 || at < 0 || at >= n {
		return api.Id{}, false
	}
	climbed := under(1, leaf)
	for wide := n; wide > 1; wide = (wide + 1) / 2 {
		if at^1 < wide {
			if len(path) == 0 {
				return api.Id{}, false
			}
			if at%2 == 0 {
				climbed = node(climbed, path[0])
			} else {
				climbed = node(path[0], climbed)
			}
			path = path[1:]
		}
		at /= 2
	}
	if len(path) > 0 {
		return api.Id{}, false
	}
	return climbed, true
}

// pathLength answers how long a path is.
func pathLength(at, n int) int {
	length := 0
	for wide := n; wide > 1; wide = (wide + 1) / 2 {
		if at^1 < wide {
			length++
		}
		at /= 2
	}
	return length
}

// wides are numbers of leaves at and beside the powers of two, up to Climb's bound.
func wides() []int {
	l := []int{1, 2, 3, 5, 6, 7, 11, 13, 1000, 99999, 1000000}
	for two := 4; two <= 1<<20; two *= 2 {
		l = append(l, two-1, two)
		if two < 1<<20 {
			l = append(l, two+1)
		}
	}
	return l
}

// placesIn are places in a tree of n leaves, at its edges and at and beside the powers of two.
func placesIn(n int) []int {
	l := []int{0, n / 3, n / 2, n - 2, n - 1}
	for two := 1; two < n; two *= 2 {
		l = append(l, two-1, two, two+1)
	}
	return slices.DeleteFunc(l, func(at int) bool { return at < 0 || at >= n })
}

// P5.1: Root

func TestRootOfKnownLeaves(t *testing.T) {
	for _, c := range []struct {
		leaves [][]byte
		want   string
	}{
		{nil, "6e340b9cffb37a989ca544e6bb780a2c78901d3fb33738768511a30617afa01d"},
		{texts(""), "957b88b12730e646e0f33d3618b77dfa579e8231e3c59c7104be7165611c8027"},
		{texts("a"), "73d3812a1275f48e4d0e92ad97a01ded7f25ebc610d80100658f1a107370a364"},
		{texts("a", "b"), "5e7db7099bc01ca12afbc66277087527baf3fbf5086a2e033b21caf5ef3f6589"},
		{texts("a", "b", "c"), "571aa690eb05820987f7fa59d131f87c5bd8501722c75baac4a355da84d2ec33"},
		{texts("a", "b", "c", "d"), "ac17c7c97c5dcc77ae55378c18d58870fa0ab217ff57185335f68afad01357b5"},
		{texts("a", "b", "c", "d", "e"), "c713ea3178338a203d7ee58e2ca94e7d69d8dc0350651c507308d87a47a37671"},
		{texts("a", "b", "c", "d", "e", "f", "g", "h", "i"), "c05ea540de4e11d5bae20e8a16e1ee87cec2ef2ea5fcae7dd7ccf9a4974e631f"},
	} {
		got := Root(c.leaves)
		if hex.EncodeToString(got[:]) != c.want {
			t.Errorf("of %q: %x, not %s", c.leaves, got, c.want)
		}
	}
}

// The first ones are as many as the greatest power of two below how many there are.
func TestRootPartsItsLeaves(t *testing.T) {
	for _, c := range []struct{ n, first int }{
		{2, 1}, {3, 2}, {4, 2}, {5, 4}, {6, 4}, {7, 4}, {8, 4}, {9, 8}, {15, 8}, {16, 8}, {17, 16},
		{31, 16}, {32, 16}, {33, 32}, {63, 32}, {64, 32}, {65, 64}, {127, 64}, {128, 64}, {129, 128}, {1000, 512},
	} {
		l := leavesOf(c.n)
		if Root(l) != node(Root(l[:c.first]), Root(l[c.first:])) {
			t.Errorf("%d leaves are not parted behind %d", c.n, c.first)
		}
	}
}

func TestRootOfEveryNumberOfLeaves(t *testing.T) {
	for n := range 300 {
		if l := leavesOf(n); Root(l) != rootBy(l) {
			t.Errorf("of %d leaves", n)
		}
	}
}

func TestNoLeavesAndNoBytesAreAlikeHoweverTheyCome(t *testing.T) {
	if Root(nil) != Root([][]byte{}) || Root(nil) != Root(leavesOf(3)[:0]) {
		t.Error("no leaves")
	}
	if Root([][]byte{nil}) != Root([][]byte{{}}) || Root([][]byte{nil, {}}) != Root([][]byte{{}, nil}) {
		t.Error("leaves of no bytes")
	}
}

func TestRootOfLongLeaves(t *testing.T) {
	l := [][]byte{row(1 << 20), nil, row(100000), bytes.Repeat([]byte{0}, 1<<16)}
	for n := range len(l) + 1 {
		if Root(l[:n]) != rootBy(l[:n]) {
			t.Errorf("of %d leaves", n)
		}
	}
}

// P5.1: Path

func TestPathOfOneLeafIsEmpty(t *testing.T) {
	if p := Path(texts("a"), 0); len(p) != 0 {
		t.Errorf("%x", p)
	}
}

// From the leaf up, on either side, and where a leaf that is left over has a short one.
func TestPathOfFiveLeaves(t *testing.T) {
	l := texts("a", "b", "c", "d", "e")
	a, b, c, d, e := Root(l[:1]), Root(l[1:2]), Root(l[2:3]), Root(l[3:4]), Root(l[4:])
	for at, want := range [][]api.Id{
		{b, node(c, d), e},
		{a, node(c, d), e},
		{d, node(a, b), e},
		{c, node(a, b), e},
		{node(node(a, b), node(c, d))},
	} {
		if got := Path(l, at); !slices.Equal(got, want) {
			t.Errorf("at %d: %x, not %x", at, got, want)
		}
	}
}

func TestPathOfEveryPlace(t *testing.T) {
	for n := range 70 {
		l := leavesOf(n)
		for at := range n {
			if got, want := Path(l, at), pathBy(l, at); !slices.Equal(got, want) {
				t.Errorf("at %d of %d: %x, not %x", at, n, got, want)
			}
		}
	}
	l := leavesOf(1025)
	for _, n := range []int{127, 128, 129, 255, 256, 257, 1023, 1024, 1025} {
		for _, at := range placesIn(n) {
			if got, want := Path(l[:n], at), pathBy(l[:n], at); !slices.Equal(got, want) {
				t.Errorf("at %d of %d: %x, not %x", at, n, got, want)
			}
		}
	}
}

func TestPathOfNoPlace(t *testing.T) {
	for _, n := range []int{0, 1, 2, 3, 4, 5, 8, 9, 100} {
		for _, at := range []int{-1, -2, -n, -n - 1, n, n + 1, 2 * n, 1 << 20, 1 << 32, math.MaxInt, math.MinInt} {
			if at >= 0 && at < n {
				continue
			}
			if p := Path(leavesOf(n), at); len(p) != 0 {
				t.Errorf("at %d of %d: %x", at, n, p)
			}
		}
	}
	if len(Path(nil, 0)) != 0 || len(Path([][]byte{}, 0)) != 0 {
		t.Error("of no leaf")
	}
}

// There is no leaf at a place behind the list's length, even if its memory goes on.
func TestPathReadsNothingBehindTheLength(t *testing.T) {
	l := leavesOf(8)
	for n := range l {
		if len(Path(l[:n], n)) != 0 || Root(l[:n]) != rootBy(slices.Clone(l[:n])) {
			t.Errorf("with %d", n)
		}
	}
}

// P5.1: Climb

func TestClimbOfOneLeaf(t *testing.T) {
	for _, leaf := range [][]byte{nil, {}, {0}, []byte("a"), row(64), row(1000)} {
		for _, none := range [][]api.Id{nil, {}, digests(2)[:0]} {
			if got, ok := Climb(leaf, 0, 1, none); !ok || got != under(1, leaf) {
				t.Errorf("%x: %x, %v", leaf, got, ok)
			}
		}
	}
}

// Of every length of path but one the answer is false: of whatever path is that
// one's it is a root, which hangs on each digest and on the side where it stands.
func TestClimbOfEveryPlaceAndLength(t *testing.T) {
	beside := digests(12)
	for n := range 40 {
		for at := range n {
			right := 0
			for length := range len(beside) + 1 {
				got, ok := Climb([]byte("leaf"), at, n, beside[:length])
				want, wantOk := climbBy([]byte("leaf"), at, n, beside[:length])
				if got != want || ok != wantOk || ok != (length == pathLength(at, n)) {
					t.Errorf("at %d of %d by %d: %x, %v", at, n, length, got, ok)
				}
				if ok {
					right++
				}
			}
			if right != 1 {
				t.Errorf("at %d of %d: %d lengths", at, n, right)
			}
		}
	}
}

func TestClimbOfManyLeaves(t *testing.T) {
	beside := digests(23)
	for _, n := range wides() {
		for _, at := range placesIn(n) {
			length := pathLength(at, n)
			got, ok := Climb([]byte("leaf"), at, n, beside[:length])
			if want, _ := climbBy([]byte("leaf"), at, n, beside[:length]); !ok || got != want {
				t.Errorf("at %d of %d: %x, %v", at, n, got, ok)
			}
			for _, other := range []int{0, length - 1, length + 1, 21, 22, 23} {
				if other < 0 || other == length {
					continue
				}
				if got, ok := Climb([]byte("leaf"), at, n, beside[:other]); ok || got != (api.Id{}) {
					t.Errorf("at %d of %d by %d, not %d: %x, %v", at, n, other, length, got, ok)
				}
			}
		}
	}
}

func TestClimbOfNoPlaceAndNoTree(t *testing.T) {
	least, most := math.MinInt, math.MaxInt
	for _, c := range []struct{ at, n int }{
		{0, 0}, {-1, 0}, {1, 0}, {0, -1}, {-1, -1}, {-2, -1}, {0, least}, {least, least}, {-1, least}, {most, least},
		{-1, 1}, {1, 1}, {2, 1}, {least, 1}, {most, 1}, {-1, 2}, {2, 2}, {-1, 3}, {3, 3}, {4, 3},
		{-1, 4}, {4, 4}, {8, 8}, {9, 8}, {-1, 1 << 20}, {1 << 20, 1 << 20}, {1<<20 + 1, 1 << 20},
		{0, 1<<20 + 1}, {1, 1<<20 + 1}, {1 << 19, 1<<20 + 1}, {1 << 20, 1<<20 + 1}, {0, 1 << 21}, {1<<21 - 1, 1 << 21},
		{0, 1 << 32}, {0, 1<<32 + 1}, {1 << 32, 1<<32 + 1}, {0, 1 << 62}, {0, 1<<62 + 1}, {0, most}, {most - 1, most}, {most, most},
		{least, most}, {-1, most},
	} {
		for length := range 70 {
			if got, ok := Climb([]byte("a"), c.at, c.n, digests(length)); ok || got != (api.Id{}) {
				t.Errorf("at %d of %d by %d: %x, %v", c.at, c.n, length, got, ok)
			}
		}
	}
}

func TestClimbOfAVeryLongPath(t *testing.T) {
	long := make([]api.Id, 1<<20)
	for _, n := range []int{1, 2, 3, 1 << 10, 1 << 20} {
		for _, at := range placesIn(n) {
			if got, ok := Climb(nil, at, n, long); ok || got != (api.Id{}) || Is(api.Id{}, nil, at, n, long) {
				t.Errorf("at %d of %d: %x, %v", at, n, got, ok)
			}
		}
	}
}

// P5.1: Is

func TestIsHoldsTheRootsAgainstEachOther(t *testing.T) {
	for _, n := range []int{1, 2, 3, 4, 5, 8, 11} {
		l := leavesOf(n)
		root := Root(l)
		for at := range n {
			path := Path(l, at)
			if !Is(root, l[at], at, n, path) {
				t.Errorf("at %d of %d: not its own", at, n)
			}
			for bit := range 8 * len(root) {
				other := root
				other[bit/8] ^= 1 << (bit % 8)
				if Is(other, l[at], at, n, path) {
					t.Errorf("at %d of %d: with bit %d turned", at, n, bit)
				}
			}
		}
	}
}

// Where Climb's root is the zero digest beside a false, it is no root.
func TestIsOfNothingThatClimbs(t *testing.T) {
	for _, root := range []api.Id{{}, Root(nil), Root(texts("a")), Root(texts("a", "b"))} {
		for _, c := range []struct {
			at, n int
			path  []api.Id
		}{
			{0, 0, nil}, {-1, 0, nil}, {-1, 1, nil}, {1, 1, nil}, {0, 1, digests(1)}, {0, 2, nil}, {1, 2, digests(2)},
			{0, -1, nil}, {0, 1<<20 + 1, digests(21)}, {0, math.MaxInt, digests(62)}, {math.MinInt, math.MinInt, nil},
		} {
			if Is(root, []byte("a"), c.at, c.n, c.path) {
				t.Errorf("at %d of %d by %d", c.at, c.n, len(c.path))
			}
		}
	}
}

// P5.2

func TestEachPathClimbsToTheRoot(t *testing.T) {
	for n := 1; n < 140; n++ {
		l := leavesOf(n)
		root := Root(l)
		for at := range n {
			path := Path(l, at)
			if got, ok := Climb(l[at], at, n, path); !ok || got != root || !Is(root, l[at], at, n, path) {
				t.Errorf("at %d of %d: %x, %v", at, n, got, ok)
			}
		}
	}
}

// Also if leaves are alike, without bytes, long, or digests of the tree itself.
func TestEachPathClimbsWhateverTheLeaves(t *testing.T) {
	none, pair := under(0), node(under(1, nil), under(1, nil))
	for _, l := range [][][]byte{
		{nil, nil, nil, nil, nil},
		{{}, nil, {}, nil, {}, nil, {}},
		{none[:], none[:], pair[:], pair[:]},
		{framed(1, nil), framed(2, none[:], none[:]), framed(0)},
		{row(1 << 18), row(1 << 17), nil},
		slices.Repeat(texts("same"), 33),
	} {
		root := Root(l)
		if root != rootBy(l) {
			t.Errorf("of %d leaves: %x", len(l), root)
		}
		for at := range l {
			if !Is(root, l[at], at, len(l), Path(l, at)) {
				t.Errorf("at %d of %d", at, len(l))
			}
		}
	}
}

// Climb's bound is none of Root's: of one leaf more there is a root all the same.
func TestAPathOfMostLeavesClimbs(t *testing.T) {
	l := make([][]byte, 1<<20+1)
	for i := range l {
		l[i] = []byte{byte(i >> 16), byte(i >> 8), byte(i)}
	}
	n, at := 1<<20, 1<<19+1
	root, last := rootBy(l[:n]), under(1, l[n])
	if Root(l) != node(root, last) {
		t.Error("another root of one leaf more")
	}
	path := Path(l[:n], at)
	if len(path) != 20 || !Is(root, l[at], at, n, path) {
		t.Errorf("a path of %d", len(path))
	}
	if Is(node(root, last), l[at], at, n+1, append(path, last)) || Is(node(root, last), l[n], n, n+1, []api.Id{root}) {
		t.Error("climbed beyond the bound")
	}
}

// others are leaves that somebody could try instead of one: near to it, or bytes
// that stand elsewhere in the tree.
func others(l [][]byte, at int) [][]byte {
	tried := [][]byte{nil, {0}, {1}, {2}, append(slices.Clone(l[at]), 0), append([]byte{1}, l[at]...), framed(1, l[at])}
	if len(l[at]) > 0 {
		tried = append(tried, l[at][:len(l[at])-1], l[at][1:])
	}
	for _, level := range levels(l) {
		for i, d := range level {
			tried = append(tried, bytes.Clone(d[:]))
			if i > 0 {
				tried = append(tried, append(bytes.Clone(level[i-1][:]), d[:]...), framed(2, level[i-1][:], d[:]))
			}
		}
	}
	return tried
}

func TestNoOtherLeafClimbs(t *testing.T) {
	for n := 1; n < 10; n++ {
		l := leavesOf(n)
		root := Root(l)
		for at := range n {
			path := Path(l, at)
			for _, leaf := range others(l, at) {
				for wide := range n + 4 {
					for place := range wide {
						for length := range len(path) + 1 {
							if Is(root, leaf, place, wide, path[:length]) || Is(root, leaf, place, wide, path[length:]) {
								t.Errorf("%x at %d of %d by the path of %d of %d", leaf, place, wide, at, n)
							}
						}
					}
				}
			}
		}
	}
}

func TestALeafClimbsAtItsOwnPlaceAlone(t *testing.T) {
	for n := 1; n < 20; n++ {
		l := leavesOf(n)
		root := Root(l)
		for at := range n {
			for place := range n {
				for from := range n {
					if is := Is(root, l[at], place, n, Path(l, from)); is != (at == place && at == from) {
						t.Errorf("%d at %d by the path of %d of %d: %v", at, place, from, n, is)
					}
				}
			}
		}
	}
}

func TestNoOtherPathClimbs(t *testing.T) {
	for _, n := range []int{2, 3, 4, 5, 7, 8, 9, 16, 33} {
		l := leavesOf(n)
		root := Root(l)
		for at := range n {
			path := Path(l, at)
			for i := range path {
				for _, bit := range []int{0, 7, 100, 255} {
					path[i][bit/8] ^= 1 << (bit % 8)
					if Is(root, l[at], at, n, path) {
						t.Errorf("at %d of %d: bit %d of %d turned", at, n, bit, i)
					}
					path[i][bit/8] ^= 1 << (bit % 8)
				}
			}
			if len(path) > 1 {
				slices.Reverse(path)
				if Is(root, l[at], at, n, path) {
					t.Errorf("at %d of %d: from the root down", at, n)
				}
			}
		}
	}
}

// trickyLists are lists of leaves of which no two are the same, but many near to
// one another: parted elsewhere, in another order, with one that stands twice,
// with digests and the bytes that they are of as leaves.
func trickyLists() [][][]byte {
	none, a, b := under(0), under(1, []byte("a")), under(1, []byte("b"))
	ab := node(a, b)
	both := append(bytes.Clone(a[:]), b[:]...)
	words := []string{
		"", "\x00", "\x01", "\x02", "a", "b", "ab", "\x01a", string(none[:]), string(a[:]), string(ab[:]), string(both),
		string(framed(1, []byte("a"))), string(framed(2, a[:], b[:])), strings.Repeat("\x00", 32), strings.Repeat("\x00", 64),
	}
	all := [][][]byte{{}}
	level := [][][]byte{{}}
	for range 3 {
		var longer [][][]byte
		for _, l := range level {
			for _, w := range words {
				longer = append(longer, append(slices.Clone(l), []byte(w)))
			}
		}
		all, level = append(all, longer...), longer
	}
	for n := 4; n < 40; n++ {
		l := leavesOf(n)
		all = append(all, l, append(slices.Clone(l), l[n-1]), append(slices.Clone(l), nil), slices.Concat(l[1:], l[:1]))
	}
	return all
}

func TestTreesOfOtherLeavesHaveAnotherRoot(t *testing.T) {
	seen := map[api.Id][][]byte{}
	for _, l := range trickyLists() {
		root := Root(l)
		if other, ok := seen[root]; ok {
			t.Fatalf("one root of %q and of %q", other, l)
		}
		seen[root] = l
	}
}

// R4, R6 and P1

func TestArgumentsAreNeitherChangedNorShared(t *testing.T) {
	room := leavesOf(12)
	kept := make([][]byte, len(room))
	for i := range room {
		kept[i] = bytes.Clone(room[i])
	}
	l := room[:9]
	root := Root(l)
	for at := range l {
		space := append(Path(l, at), digests(3)...)
		length := len(space) - 3
		before := slices.Clone(space)
		if !Is(root, l[at], at, len(l), space[:length]) {
			t.Errorf("at %d", at)
		}
		if got, ok := Climb(l[at], at, len(l), space[:length]); !ok || got != root {
			t.Errorf("at %d: %x, %v", at, got, ok)
		}
		if !slices.Equal(space, before) {
			t.Errorf("at %d: the path is changed", at)
		}
	}
	for i := range room {
		if !bytes.Equal(room[i], kept[i]) {
			t.Errorf("leaf %d is changed", i)
		}
	}
}

func TestAnswersAreNewMemory(t *testing.T) {
	l := leavesOf(11)
	for at := range l {
		first, second := Path(l, at), Path(l, at)
		want := slices.Clone(second)
		for i := range first {
			first[i] = api.Id{}
		}
		_ = append(first, digests(1)...)
		if !slices.Equal(second, want) || !slices.Equal(Path(l, at), want) {
			t.Errorf("at %d: changed by whoever asked", at)
		}
	}
}

func TestTheSameCallHasTheSameAnswer(t *testing.T) {
	l := leavesOf(21)
	root := Root(l)
	for range 3 {
		for at := range l {
			path := Path(l, at)
			if Root(l) != root || !slices.Equal(path, pathBy(l, at)) || !Is(root, l[at], at, len(l), path) {
				t.Errorf("at %d", at)
			}
		}
	}
}
