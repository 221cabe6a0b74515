package sums

import (
	"math"
	"math/big"
	"slices"
	"testing"

	"seisin/api"
)

const (
	top  = uint64(1) << 62
	most = uint64(math.MaxUint64)
)

// edges are numbers at and beside every bound, rising.
func edges() []uint64 {
	return []uint64{0, 1, 2, 3, 7, 255, 256, 257, 1<<32 - 1, 1 << 32, 1<<61 - 1, 1 << 61, 1<<61 + 1,
		top - 2, top - 1, top, top + 1, 1<<63 - 1, 1 << 63, 1<<63 + 1, most - top, most - top + 1, most - 1, most}
}

func bigOf(a uint64) *big.Int { return new(big.Int).SetUint64(a) }

// outside tells whether a number of any size is no amount.
func outside(n *big.Int) bool { return n.Sign() < 0 || n.Cmp(bigOf(top)) > 0 }

// exact answers the sum by numbers that never go round.
func exact(l ...uint64) (uint64, api.Errno) {
	sum := new(big.Int)
	for _, a := range l {
		sum.Add(sum, bigOf(a))
		if outside(sum) {
			return 0, api.ErrSum
		}
	}
	return sum.Uint64(), api.OK
}

// row answers n numbers below under, without order, always the same ones.
func row(n int, under uint64) []uint64 {
	l := make([]uint64, n)
	step := uint64(n)*2654435761 + 1
	for i := range l {
		step = step*6364136223846793005 + 1442695040888963407
		l[i] = (step >> 1) % under
	}
	return l
}

// P2.1

func TestAdd(t *testing.T) {
	for _, c := range []struct {
		a, b, want uint64
		e          api.Errno
	}{
		{0, 0, 0, api.OK},
		{2, 3, 5, api.OK},
		{top, 0, top, api.OK},
		{0, top, top, api.OK},
		{top - 1, 1, top, api.OK},
		{1 << 61, 1 << 61, top, api.OK},
		{1 << 61, 1<<61 - 1, top - 1, api.OK},
		{1 << 61, 1<<61 + 1, 0, api.ErrSum},
		{top, 1, 0, api.ErrSum},
		{1, top, 0, api.ErrSum},
		{top, top, 0, api.ErrSum},
		{top + 1, 0, 0, api.ErrSum},
		{0, top + 1, 0, api.ErrSum},
		{1 << 63, 1 << 63, 0, api.ErrSum},
		{most, 1, 0, api.ErrSum},
		{1, most, 0, api.ErrSum},
		{most, most, 0, api.ErrSum},
		{top + 1, most - top, 0, api.ErrSum},
		{most - top + 1, top, 0, api.ErrSum},
		{top, most - top + 1, 0, api.ErrSum},
	} {
		if s, e := Add(c.a, c.b); s != c.want || e != c.e {
			t.Errorf("Add(%d, %d) is %d, %v, not %d, %v", c.a, c.b, s, e, c.want, c.e)
		}
	}
}

func TestAddEveryPairOfEdges(t *testing.T) {
	for _, a := range edges() {
		for _, b := range edges() {
			want, wantE := exact(a, b)
			if outside(bigOf(a)) || outside(bigOf(b)) {
				want, wantE = 0, api.ErrSum
			}
			if s, e := Add(a, b); s != want || e != wantE {
				t.Errorf("Add(%d, %d) is %d, %v, not %d, %v", a, b, s, e, want, wantE)
			}
		}
	}
}

func TestAll(t *testing.T) {
	for _, c := range []struct {
		l    []uint64
		want uint64
		e    api.Errno
	}{
		{nil, 0, api.OK},
		{[]uint64{}, 0, api.OK},
		{[]uint64{0}, 0, api.OK},
		{[]uint64{9}, 9, api.OK},
		{[]uint64{1, 2, 3, 4}, 10, api.OK},
		{[]uint64{top}, top, api.OK},
		{[]uint64{0, top, 0}, top, api.OK},
		{[]uint64{1 << 60, 1 << 60, 1 << 60, 1 << 60}, top, api.OK},
		{[]uint64{1 << 60, 1 << 60, 1 << 60, 1 << 60, 1}, 0, api.ErrSum},
		{[]uint64{1, top}, 0, api.ErrSum},
		{[]uint64{top, top}, 0, api.ErrSum},
		{[]uint64{top + 1}, 0, api.ErrSum},
		{[]uint64{most}, 0, api.ErrSum},
		{[]uint64{1, most}, 0, api.ErrSum},
		{[]uint64{most, 1}, 0, api.ErrSum},
		{[]uint64{1 << 63, 1 << 63}, 0, api.ErrSum},
		{[]uint64{top, top, top, top}, 0, api.ErrSum},
		{[]uint64{5, most - 4, 3}, 0, api.ErrSum},
		{[]uint64{0, 0, top + 1, 0}, 0, api.ErrSum},
	} {
		if s, e := All(c.l); s != c.want || e != c.e {
			t.Errorf("All(%v) is %d, %v, not %d, %v", c.l, s, e, c.want, c.e)
		}
	}
}

func TestAllOfEveryThreeEdges(t *testing.T) {
	for _, a := range edges() {
		for _, b := range edges() {
			for _, c := range edges() {
				want, wantE := exact(a, b, c)
				if s, e := All([]uint64{a, b, c}); s != want || e != wantE {
					t.Errorf("All(%d, %d, %d) is %d, %v, not %d, %v", a, b, c, s, e, want, wantE)
				}
			}
		}
	}
}

func TestAllOfLongLists(t *testing.T) {
	for n := range 300 {
		for _, under := range []uint64{10, top / 100, top} {
			l := row(n, under)
			want, wantE := exact(l...)
			if s, e := All(l); s != want || e != wantE {
				t.Fatalf("of %d under %d: %d, %v, not %d, %v", n, under, s, e, want, wantE)
			}
		}
	}
}

func TestAllLeavesItsListAndLooksNoFurther(t *testing.T) {
	whole := []uint64{4, 5, 6, most}
	was := slices.Clone(whole)
	if s, e := All(whole[:2]); s != 9 || e != api.OK {
		t.Error(s, e)
	}
	if !slices.Equal(whole, was) {
		t.Errorf("%v was %v", whole, was)
	}
}

func TestLess(t *testing.T) {
	for _, c := range []struct {
		a, b, want uint64
		e          api.Errno
	}{
		{0, 0, 0, api.OK},
		{5, 3, 2, api.OK},
		{5, 5, 0, api.OK},
		{5, 0, 5, api.OK},
		{top, 0, top, api.OK},
		{top, top, 0, api.OK},
		{top, 1, top - 1, api.OK},
		{0, 1, 0, api.ErrLess},
		{1, 2, 0, api.ErrLess},
		{0, top, 0, api.ErrLess},
		{top - 1, top, 0, api.ErrLess},
		{top + 1, 0, 0, api.ErrSum},
		{top + 1, top + 1, 0, api.ErrSum},
		{most, most, 0, api.ErrSum},
		{1 << 63, 2, 0, api.ErrSum},
		// One that is both above the bound and the greater one is no amount first.
		{0, top + 1, 0, api.ErrSum},
		{top, top + 1, 0, api.ErrSum},
		{5, most, 0, api.ErrSum},
		{top + 1, top + 2, 0, api.ErrSum},
	} {
		if s, e := Less(c.a, c.b); s != c.want || e != c.e {
			t.Errorf("Less(%d, %d) is %d, %v, not %d, %v", c.a, c.b, s, e, c.want, c.e)
		}
	}
}

func TestLessEveryPairOfEdges(t *testing.T) {
	for _, a := range edges() {
		for _, b := range edges() {
			rest := new(big.Int).Sub(bigOf(a), bigOf(b))
			want, wantE := uint64(0), api.OK
			switch {
			case outside(bigOf(a)) || outside(bigOf(b)):
				wantE = api.ErrSum
			case rest.Sign() < 0:
				wantE = api.ErrLess
			default:
				want = rest.Uint64()
			}
			if s, e := Less(a, b); s != want || e != wantE {
				t.Errorf("Less(%d, %d) is %d, %v, not %d, %v", a, b, s, e, want, wantE)
			}
		}
	}
}

// P2.2

func TestSplit(t *testing.T) {
	for _, c := range []struct {
		a    uint64
		n    int
		want []uint64
	}{
		{7, 3, []uint64{3, 2, 2}},
		{8, 3, []uint64{3, 3, 2}},
		{9, 3, []uint64{3, 3, 3}},
		{10, 4, []uint64{3, 3, 2, 2}},
		{0, 1, []uint64{0}},
		{0, 3, []uint64{0, 0, 0}},
		{1, 1, []uint64{1}},
		{1, 3, []uint64{1, 0, 0}},
		{2, 3, []uint64{1, 1, 0}},
		{top, 1, []uint64{top}},
		{top, 2, []uint64{1 << 61, 1 << 61}},
		{top, 3, []uint64{top/3 + 1, top / 3, top / 3}},
		{top - 1, 2, []uint64{1 << 61, 1<<61 - 1}},
	} {
		if got := Split(c.a, c.n); !slices.Equal(got, c.want) {
			t.Errorf("Split(%d, %d) is %v, not %v", c.a, c.n, got, c.want)
		}
	}
}

func TestSplitIntoEveryCount(t *testing.T) {
	for _, a := range edges() {
		for n := 1; n <= 256; n++ {
			l := Split(a, n)
			if a > top {
				if len(l) != 0 {
					t.Fatalf("Split(%d, %d) is %v", a, n, l)
				}
				continue
			}
			if len(l) != n {
				t.Fatalf("Split(%d, %d) has %d", a, n, len(l))
			}
			if s, e := exact(l...); s != a || e != api.OK {
				t.Errorf("Split(%d, %d) is %d in all", a, n, s)
			}
			for i := 1; i < n; i++ {
				if l[i] > l[i-1] {
					t.Errorf("Split(%d, %d) rises at %d", a, n, i)
				}
			}
			if l[0]-l[n-1] > 1 {
				t.Errorf("Split(%d, %d) is from %d to %d", a, n, l[n-1], l[0])
			}
		}
	}
}

func TestSplitOutside(t *testing.T) {
	for _, a := range []uint64{0, 1, 7, 256, 257, top} {
		for _, n := range []int{0, -1, -2, -256, -1 << 32, math.MinInt, math.MinInt + 1,
			257, 258, 512, 1 << 32, 1<<32 + 3, math.MaxInt} {
			if l := Split(a, n); len(l) != 0 {
				t.Errorf("Split(%d, %d) has %d", a, n, len(l))
			}
		}
	}
	for _, a := range []uint64{top + 1, 1<<63 - 1, 1 << 63, most} {
		for _, n := range []int{-1, 0, 1, 2, 256, 257} {
			if l := Split(a, n); len(l) != 0 {
				t.Errorf("Split(%d, %d) has %d", a, n, len(l))
			}
		}
	}
}

func TestSplitAnswersNewMemory(t *testing.T) {
	l := Split(7, 3)
	for i := range l {
		l[i] = 99
	}
	_ = append(l, 99)
	if got := Split(7, 3); !slices.Equal(got, []uint64{3, 2, 2}) {
		t.Error(got)
	}
}

// P2.3

func TestWhatWasAddedAndTakenOffIsAsItWas(t *testing.T) {
	for _, a := range append(edges(), row(40, top)...) {
		for _, b := range append(edges(), row(40, top)...) {
			s, e := Add(a, b)
			if e != api.OK {
				continue
			}
			if back, e := Less(s, b); back != a || e != api.OK {
				t.Errorf("%d and %d less %d is %d, %v", a, b, b, back, e)
			}
			if back, e := Less(s, a); back != b || e != api.OK {
				t.Errorf("%d and %d less %d is %d, %v", a, b, a, back, e)
			}
		}
	}
}

func TestWhatWasTakenOffAndAddedIsAsItWas(t *testing.T) {
	for _, a := range append(edges(), row(40, top)...) {
		for _, b := range append(edges(), row(40, top)...) {
			rest, e := Less(a, b)
			if e != api.OK {
				continue
			}
			if back, e := Add(rest, b); back != a || e != api.OK {
				t.Errorf("%d less %d and %d is %d, %v", a, b, b, back, e)
			}
		}
	}
}

func TestWhatWasSplitIsAsItWasInAll(t *testing.T) {
	for _, a := range row(60, top) {
		for n := 1; n <= 256; n += 5 {
			parts := Split(a, n)
			if s, e := All(parts); s != a || e != api.OK {
				t.Errorf("Split(%d, %d) is %d, %v in all", a, n, s, e)
			}
			rest := a
			for _, p := range parts {
				rest, _ = Less(rest, p)
			}
			if rest != 0 {
				t.Errorf("Split(%d, %d) leaves %d", a, n, rest)
			}
		}
	}
}
