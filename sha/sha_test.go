package sha

import (
	"bytes"
	"crypto/sha256"
	"encoding/hex"
	"math/big"
	"slices"
	"strings"
	"testing"

	"seisin/api"
)

// row answers n bytes without order, always the same ones.
func row(n int) []byte {
	l := make([]byte, n)
	step := uint64(n)*2654435761 + 1
	for i := range l {
		step = step*6364136223846793005 + 1442695040888963407
		l[i] = byte(step >> 56)
	}
	return l
}

// exact answers the digest by the library's own.
func exact(b []byte) api.Id { return sha256.Sum256(b) }

// framed answers what Under's digest is of, written out by hand.
func framed(mark byte, lists ...[]byte) []byte {
	all := []byte{mark}
	for _, l := range lists {
		n := len(l)
		all = append(all, byte(n>>24), byte(n>>16), byte(n>>8), byte(n))
		all = append(all, l...)
	}
	return all
}

// P3.1: Sum

func TestSumOfKnownMessages(t *testing.T) {
	for _, c := range []struct{ in, want string }{
		{"", "e3b0c44298fc1c149afbf4c8996fb92427ae41e4649b934ca495991b7852b855"},
		{"abc", "ba7816bf8f01cfea414140de5dae2223b00361a396177a9cb410ff61f20015ad"},
		{"abcdbcdecdefdefgefghfghighijhijkijkljklmklmnlmnomnopnopq",
			"248d6a61d20638b8e5c026930c3e6039a33ce45964ff2167f6ecedd419db06c1"},
		{"abcdefghbcdefghicdefghijdefghijkefghijklfghijklmghijklmnhijklmnoijklmnopjklmnopqklmnopqrlmnopqrsmnopqrstnopqrstu",
			"cf5b16a778af8380036ce59e7b0492370b249b11e8f07a51afac45037afee9d1"},
		{strings.Repeat("a", 1000000), "cdc76e5c9914fb9281a1c7e284d73e67f1809a48a497200e046d39ccc7112cd0"},
	} {
		if got := Hex(Sum([]byte(c.in))); got != c.want {
			t.Errorf("of %d bytes: %s, not %s", len(c.in), got, c.want)
		}
	}
}

func TestSumOfNothing(t *testing.T) {
	want := exact(nil)
	if Sum() != want || Sum(nil) != want || Sum([]byte{}) != want || Sum(nil, []byte{}, nil) != want {
		t.Error("what has no bytes isn't alike")
	}
}

// Every length up to some blocks has every way in which a last block is filled.
func TestSumOfEveryLength(t *testing.T) {
	for n := range 1100 {
		for _, b := range [][]byte{row(n), make([]byte, n), bytes.Repeat([]byte{0xff}, n)} {
			if got, want := Sum(b), exact(b); got != want {
				t.Errorf("of %d bytes: %x, not %x", n, got, want)
			}
		}
	}
}

func TestSumOfEveryByteAndEveryBit(t *testing.T) {
	for x := range 256 {
		b := []byte{byte(x)}
		if Sum(b) != exact(b) {
			t.Errorf("of byte %d", x)
		}
	}
	for _, n := range []int{1, 55, 56, 63, 64, 65, 119, 120, 128} {
		for bit := range 8 * n {
			b := row(n)
			b[bit/8] ^= 1 << (bit % 8)
			if got := Sum(b); got != exact(b) || got == Sum(row(n)) {
				t.Errorf("of %d bytes with bit %d turned", n, bit)
			}
		}
	}
}

// The length in bits goes beyond 32 bits.
func TestSumOfALongMessage(t *testing.T) {
	part := row(1 << 20)
	lists, h := [][]byte{row(3)}, sha256.New()
	h.Write(row(3))
	for range 512 {
		lists = append(lists, part)
		h.Write(part)
	}
	if got, want := Sum(lists...), api.Id(h.Sum(nil)); got != want {
		t.Errorf("%x, not %x", got, want)
	}
}

// P3.1: Under

func TestUnder(t *testing.T) {
	for _, c := range []struct {
		mark  byte
		lists [][]byte
		want  string
	}{
		{7, nil, "\x07"},
		{0, nil, "\x00"},
		{255, nil, "\xff"},
		{7, [][]byte{nil}, "\x07\x00\x00\x00\x00"},
		{7, [][]byte{{}}, "\x07\x00\x00\x00\x00"},
		{1, [][]byte{[]byte("ab")}, "\x01\x00\x00\x00\x02ab"},
		{8, [][]byte{[]byte("a"), nil, []byte("bcd")}, "\x08\x00\x00\x00\x01a\x00\x00\x00\x00\x00\x00\x00\x03bcd"},
	} {
		if got, want := Under(c.mark, c.lists...), exact([]byte(c.want)); got != want {
			t.Errorf("Under(%d, %q) is %x, not %x", c.mark, c.lists, got, want)
		}
	}
}

func TestUnderEveryMark(t *testing.T) {
	seen := map[api.Id]int{}
	for mark := range 256 {
		got := Under(byte(mark), row(40), row(3))
		if got != exact(framed(byte(mark), row(40), row(3))) {
			t.Errorf("under %d", mark)
		}
		if other, ok := seen[got]; ok {
			t.Errorf("%d and %d are alike", mark, other)
		}
		seen[got] = mark
	}
}

// Each of the length's four bytes is made to count, the highest one, too.
func TestUnderOfEveryLength(t *testing.T) {
	lengths := []int{255, 256, 257, 65535, 65536, 65537, 1<<24 - 1, 1 << 24, 1<<24 + 0x10203}
	for n := range 200 {
		lengths = append(lengths, n)
	}
	for _, n := range lengths {
		b := row(n)
		if got, want := Under(3, b), exact(framed(3, b)); got != want {
			t.Errorf("of %d bytes: %x, not %x", n, got, want)
		}
	}
}

func TestUnderOfManyLists(t *testing.T) {
	lists := [][]byte{}
	for n := range 150 {
		if got, want := Under(9, lists...), exact(framed(9, lists...)); got != want {
			t.Errorf("of %d lists: %x, not %x", n, got, want)
		}
		lists = append(lists, row(n))
	}
}

// P3.1: Hex and Same

func TestHex(t *testing.T) {
	if got := Hex(api.Id{}); got != strings.Repeat("0", 64) {
		t.Error(got)
	}
	var d, all api.Id
	for i := range d {
		d[i], all[i] = byte(i), 0xff
	}
	if got := Hex(d); got != "000102030405060708090a0b0c0d0e0f101112131415161718191a1b1c1d1e1f" {
		t.Error(got)
	}
	if got := Hex(all); got != strings.Repeat("f", 64) {
		t.Error(got)
	}
	for x := range 256 {
		for at := range 32 {
			one := api.Id{}
			one[at] = byte(x)
			if got, want := Hex(one), hex.EncodeToString(one[:]); got != want {
				t.Errorf("%s, not %s", got, want)
			}
		}
	}
}

func TestSame(t *testing.T) {
	for _, a := range []api.Id{{}, {9}, exact(nil), exact([]byte("abc"))} {
		if !Same(a, a) {
			t.Errorf("%x is not the same as itself", a)
		}
		for bit := range 256 {
			b := a
			b[bit/8] ^= 1 << (bit % 8)
			if Same(a, b) || Same(b, a) {
				t.Errorf("%x is the same with bit %d turned", a, bit)
			}
		}
	}
}

// Two that are unlike in many places are not alike because these outweigh one another.
func TestSameOfManyUnlikeBytes(t *testing.T) {
	a := exact(nil)
	for i := range a {
		for j := range a {
			if i == j {
				continue
			}
			for _, by := range []byte{1, 128, 255} {
				turned, moved := a, a
				turned[i] ^= by
				turned[j] ^= by
				moved[i] += by
				moved[j] -= by
				if Same(a, turned) || Same(a, moved) {
					t.Errorf("unlike at %d and %d by %d, and the same", i, j, by)
				}
			}
		}
	}
	if Same(api.Id{1, 2}, api.Id{2, 1}) {
		t.Error("the same in another order")
	}
}

// P3.2

func TestWhereListsArePartedChangesNoSum(t *testing.T) {
	for _, n := range []int{0, 1, 2, 55, 56, 63, 64, 65, 128, 200} {
		b := row(n)
		want := Sum(b)
		for i := range n + 1 {
			for j := i; j <= n; j++ {
				if Sum(b[:i], b[i:j], b[j:]) != want {
					t.Errorf("%d bytes parted at %d and %d", n, i, j)
				}
			}
		}
		single := [][]byte{}
		for i := range b {
			single = append(single, b[i:i+1], nil)
		}
		if Sum(single...) != want {
			t.Errorf("%d bytes, each by itself", n)
		}
	}
}

func TestSumOfListsIsSumOfThemJoined(t *testing.T) {
	lists := [][]byte{}
	for n := range 90 {
		if Sum(lists...) != exact(slices.Concat(lists...)) {
			t.Errorf("of %d lists", n)
		}
		lists = append(lists, row(n))
	}
}

func TestWhereListsArePartedAlwaysChangesUnder(t *testing.T) {
	for _, b := range [][]byte{nil, make([]byte, 20), row(20), row(70)} {
		seen := map[api.Id]bool{}
		tell := func(lists ...[]byte) {
			d := Under(5, lists...)
			if seen[d] {
				t.Errorf("%q is as others are", lists)
			}
			seen[d] = true
		}
		tell()
		tell(b)
		for i := range len(b) + 1 {
			tell(b[:i], b[i:])
			for j := i; j <= len(b); j++ {
				tell(b[:i], b[i:j], b[j:])
			}
		}
	}
}

// Lists that look like the lengths of others, and a mark that looks like a list, are not they.
func TestUnderIsNotLedAstray(t *testing.T) {
	seen := map[api.Id]bool{}
	for _, lists := range [][][]byte{
		{},
		{{}},
		{{}, {}},
		{{0, 0, 0, 0}},
		{{0, 0, 0, 0}, {}},
		{{}, {0, 0, 0, 0}},
		{{0, 0, 0, 0, 0, 0, 0, 0}},
		{{0}, {0, 0, 0}},
		{{'a'}, {'b'}},
		{{'a', 0, 0, 0, 1, 'b'}},
		{{'a', 'b'}},
		{{'b'}, {'a'}},
	} {
		d := Under(0, lists...)
		if seen[d] {
			t.Errorf("%q is as others are", lists)
		}
		seen[d] = true
	}
}

// The rules that hold everywhere

func TestListsAreLeftAndNotLookedBehind(t *testing.T) {
	whole := row(200)
	was := slices.Clone(whole)
	lists := [][]byte{whole[:70], nil, whole[70:90], whole[100:100]}
	want := Sum(slices.Clone(was[:90]))
	if Sum(lists[:3]...) != want || Sum(lists...) != want {
		t.Error("sum")
	}
	if Under(4, lists...) != exact(framed(4, was[:70], nil, was[70:90], nil)) {
		t.Error("under")
	}
	if !bytes.Equal(whole, was) {
		t.Error("what was handed in has changed")
	}
	if len(lists) != 4 || len(lists[0]) != 70 || lists[1] != nil || len(lists[2]) != 20 || len(lists[3]) != 0 {
		t.Error("the row of lists has changed")
	}
}

func TestTheSameCallHasTheSameAnswer(t *testing.T) {
	sum, under := Sum(row(100)), Under(1, row(100))
	for range 3 {
		first := Sum(row(100))
		first[0]++ // what was answered may be written over
		Sum([]byte("abc"))
		Under(2, row(64))
		if Sum(row(100)) != sum || Under(1, row(100)) != under {
			t.Error("another answer")
		}
	}
}

// fraction answers the first 32 bits of the fraction of a prime's root: of its
// square root (2) or cube root (3).
func fraction(prime int64, root int) uint32 {
	n := new(big.Int).Lsh(big.NewInt(prime), uint(32*root))
	low, high := new(big.Int), new(big.Int).Lsh(big.NewInt(prime), 32)
	for low.Cmp(high) < 0 {
		mid := new(big.Int).Add(low, high)
		mid.Add(mid, big.NewInt(1)).Rsh(mid, 1)
		if new(big.Int).Exp(mid, big.NewInt(int64(root)), nil).Cmp(n) <= 0 {
			low = mid
		} else {
			high = mid.Sub(mid, big.NewInt(1))
		}
	}
	return uint32(low.Uint64())
}

func TestTheTablesAreRootsOfPrimes(t *testing.T) {
	at := 0
	for n := int64(2); at < len(roundWords); n++ {
		if !big.NewInt(n).ProbablyPrime(0) {
			continue
		}
		if roundWords[at] != fraction(n, 3) {
			t.Errorf("round word %d is %x", at, roundWords[at])
		}
		if at < len(startWords) && startWords[at] != fraction(n, 2) {
			t.Errorf("start word %d is %x", at, startWords[at])
		}
		at++
	}
}
